/-
  Some of the texts of this proof, one behind the other.
-/
import Derived.BigRegion
import Derived.Test.YtbibhgikmnpbfaaGreatDoorRb19
namespace Go.Proofs.YtbibhgikmnpbfaaGreatDoor
open Go.RowKit Tf Cu Go.Deep
attribute [local go_sem] run_bits run_from raw_feq raw_fne raw_flt raw_fgt run_neg run_store_float
namespace Rv
set_option maxRecDepth 100000 in
set_option maxHeartbeats 8000000 in
theorem fitw19 (gb : Nat) (pb pw pt ps : Option Addr) (lb cb lw cw lt ct ls cs : Nat) (sky st : Int) (M N : Nat) (q : Bool) (w : World)
    (hq : (((lb : Int) == (M : Int)) = false ∧ q = false) ∨ (((lb : Int) == (M : Int)) = true ∧ ((lw : Int) == (M : Int)) = false ∧ q = false) ∨ (((lb : Int) == (M : Int)) = true ∧ ((lw : Int) == (M : Int)) = true ∧ ((lt : Int) == (M : Int)) = false ∧ q = false) ∨ (((lb : Int) == (M : Int)) = true ∧ ((lw : Int) == (M : Int)) = true ∧ ((lt : Int) == (M : Int)) = true ∧ ((ls : Int) == (N : Int)) = q))
    (CC : Hid (∀ v, Ab w v → Calls Tryz.prog 14 #[(.pointer (some ⟨gb, 0, none⟩))] v fun e w' => e = .returned (.int .i64 (M : Nat)) ∧ Below v.heap.size v w'))
    (CE : Hid (∀ v, Ab w v → Calls Tryz.prog 51 #[(.pointer (some ⟨gb, 0, none⟩))] v fun e w' => e = .returned (.int .i64 (N : Nat)) ∧ Below v.heap.size v w')) :
    Calls Tryz.prog 18 #[(.pointer (some ⟨gb, 0, none⟩)), .agg #[.slice pb lb cb, .slice pw lw cw, .slice pt lt ct, .slice ps ls cs, .int .i64 sky, .int .i64 st]] w fun e w' => e = .returned (.bool q) ∧ Below w.heap.size w w' := by
  have A0 : Hid (Ab w (w.alloc (.cells #[.slice pb lb cb, .slice pw lw cw, .slice pt lt ct, .slice ps ls cs, .int .i64 sky, .int .i64 st] 25))) := bl1 _ _
  have RO : Hid ((w.alloc (.cells #[.slice pb lb cb, .slice pw lw cw, .slice pt lt ct, .slice ps ls cs, .int .i64 sky, .int .i64 st] 25)).heap[w.heap.size]? = some (.cells #[.slice pb lb cb, .slice pw lw cw, .slice pt lt ct, .slice ps ls cs, .int .i64 sky, .int .i64 st] 25)) := heap_alloc_new _ _
  go_enter Tryz.func18, Tryz.ntmps18
  go_wp2_with fail
  refine (CC.out _ A0.out).mono ?_
  rintro e9 v1 ⟨rfl, b1⟩
  have A1 : Hid (Ab w v1) := A0.out.call b1
  have R1 : Hid (v1.heap[w.heap.size]? = some (.cells #[.slice pb lb cb, .slice pw lw cw, .slice pt lt ct, .slice ps ls cs, .int .i64 sky, .int .i64 st] 25)) := Ab.heap b1 RO.out
  clear b1 A0 RO
  go_upto_region 2 with fail
  obtain ⟨gs, hgs⟩ : ∃ g, w.heap.size = g := ⟨_, rfl⟩
  rw [hgs] at R1 ⊢
  clear hgs
  rcases hq with ⟨q1, rfl⟩ | ⟨q1, q2, rfl⟩ | ⟨q1, q2, q3, rfl⟩ | ⟨q1, q2, q3, q4⟩
  · obtain ⟨UU, E, hF1, hF2⟩ := cls v1
    have HU := hid hF2
    have HU1 := hid hF1
    have HX : Hid (∀ u, Ab w (E u)) := fun u => Ab.trans A1.out (hF1 u)
    have s0 : ∀ u, (E u).cell? ⟨gs, 0, none⟩ = some (.slice pb lb cb) := fun u => cell_of_row _ _ 0 _ _ _ ((hF1 u).heap R1.out)
    have s1 : ∀ u, (E u).cell? ⟨gs, 1, none⟩ = some (.slice pw lw cw) := fun u => cell_of_row _ _ 1 _ _ _ ((hF1 u).heap R1.out)
    have s2 : ∀ u, (E u).cell? ⟨gs, 2, none⟩ = some (.slice pt lt ct) := fun u => cell_of_row _ _ 2 _ _ _ ((hF1 u).heap R1.out)
    have s3 : ∀ u, (E u).cell? ⟨gs, 3, none⟩ = some (.slice ps ls cs) := fun u => cell_of_row _ _ 3 _ _ _ ((hF1 u).heap R1.out)
    have DD0 := HU.out _ (Ab.refl v1).drew
    clear hF1 hF2
    refine region_cls E (by kernel_rfl) (by kernel_rfl) DD0 ?_
    repeat (go_big_quiet_step (first
      | (with_reducible rfl)
      | (go_at_call 51; exact calls_cls HU HU1 (CE.out _ (HX.out _)))))
    refine wpQuiet_nil ?_
    intro z hwz
    obtain ⟨u0, hu⟩ := hwz
    have AZ : Hid (Ab w z) := by rw [hu]; exact HX.out u0
    clear hu u0
    clear HU HU1 HX DD0 s0 s1 s2 s3
    clear E UU
    go_wp2
    go_ret
    exact ⟨rfl, AZ.out⟩
  · obtain ⟨UU, E, hF1, hF2⟩ := cls v1
    have HU := hid hF2
    have HU1 := hid hF1
    have HX : Hid (∀ u, Ab w (E u)) := fun u => Ab.trans A1.out (hF1 u)
    have s0 : ∀ u, (E u).cell? ⟨gs, 0, none⟩ = some (.slice pb lb cb) := fun u => cell_of_row _ _ 0 _ _ _ ((hF1 u).heap R1.out)
    have s1 : ∀ u, (E u).cell? ⟨gs, 1, none⟩ = some (.slice pw lw cw) := fun u => cell_of_row _ _ 1 _ _ _ ((hF1 u).heap R1.out)
    have s2 : ∀ u, (E u).cell? ⟨gs, 2, none⟩ = some (.slice pt lt ct) := fun u => cell_of_row _ _ 2 _ _ _ ((hF1 u).heap R1.out)
    have s3 : ∀ u, (E u).cell? ⟨gs, 3, none⟩ = some (.slice ps ls cs) := fun u => cell_of_row _ _ 3 _ _ _ ((hF1 u).heap R1.out)
    have DD0 := HU.out _ (Ab.refl v1).drew
    clear hF1 hF2
    refine region_cls E (by kernel_rfl) (by kernel_rfl) DD0 ?_
    repeat (go_big_quiet_step (first
      | (with_reducible rfl)
      | (go_at_call 51; exact calls_cls HU HU1 (CE.out _ (HX.out _)))))
    refine wpQuiet_nil ?_
    intro z hwz
    obtain ⟨u0, hu⟩ := hwz
    have AZ : Hid (Ab w z) := by rw [hu]; exact HX.out u0
    clear hu u0
    clear HU HU1 HX DD0 s0 s1 s2 s3
    clear E UU
    go_wp2
    go_ret
    exact ⟨rfl, AZ.out⟩
  · obtain ⟨UU, E, hF1, hF2⟩ := cls v1
    have HU := hid hF2
    have HU1 := hid hF1
    have HX : Hid (∀ u, Ab w (E u)) := fun u => Ab.trans A1.out (hF1 u)
    have s0 : ∀ u, (E u).cell? ⟨gs, 0, none⟩ = some (.slice pb lb cb) := fun u => cell_of_row _ _ 0 _ _ _ ((hF1 u).heap R1.out)
    have s1 : ∀ u, (E u).cell? ⟨gs, 1, none⟩ = some (.slice pw lw cw) := fun u => cell_of_row _ _ 1 _ _ _ ((hF1 u).heap R1.out)
    have s2 : ∀ u, (E u).cell? ⟨gs, 2, none⟩ = some (.slice pt lt ct) := fun u => cell_of_row _ _ 2 _ _ _ ((hF1 u).heap R1.out)
    have s3 : ∀ u, (E u).cell? ⟨gs, 3, none⟩ = some (.slice ps ls cs) := fun u => cell_of_row _ _ 3 _ _ _ ((hF1 u).heap R1.out)
    have DD0 := HU.out _ (Ab.refl v1).drew
    clear hF1 hF2
    refine region_cls E (by kernel_rfl) (by kernel_rfl) DD0 ?_
    repeat (go_big_quiet_step (first
      | (with_reducible rfl)
      | (go_at_call 51; exact calls_cls HU HU1 (CE.out _ (HX.out _)))))
    refine wpQuiet_nil ?_
    intro z hwz
    obtain ⟨u0, hu⟩ := hwz
    have AZ : Hid (Ab w z) := by rw [hu]; exact HX.out u0
    clear hu u0
    clear HU HU1 HX DD0 s0 s1 s2 s3
    clear E UU
    go_wp2
    go_ret
    exact ⟨rfl, AZ.out⟩
  · obtain ⟨UU, E, hF1, hF2⟩ := cls v1
    have HU := hid hF2
    have HU1 := hid hF1
    have HX : Hid (∀ u, Ab w (E u)) := fun u => Ab.trans A1.out (hF1 u)
    have s0 : ∀ u, (E u).cell? ⟨gs, 0, none⟩ = some (.slice pb lb cb) := fun u => cell_of_row _ _ 0 _ _ _ ((hF1 u).heap R1.out)
    have s1 : ∀ u, (E u).cell? ⟨gs, 1, none⟩ = some (.slice pw lw cw) := fun u => cell_of_row _ _ 1 _ _ _ ((hF1 u).heap R1.out)
    have s2 : ∀ u, (E u).cell? ⟨gs, 2, none⟩ = some (.slice pt lt ct) := fun u => cell_of_row _ _ 2 _ _ _ ((hF1 u).heap R1.out)
    have s3 : ∀ u, (E u).cell? ⟨gs, 3, none⟩ = some (.slice ps ls cs) := fun u => cell_of_row _ _ 3 _ _ _ ((hF1 u).heap R1.out)
    have DD0 := HU.out _ (Ab.refl v1).drew
    clear hF1 hF2
    refine region_cls E (by kernel_rfl) (by kernel_rfl) DD0 ?_
    repeat (go_big_quiet_step (first
      | (with_reducible rfl)
      | (go_at_call 51; exact calls_cls HU HU1 (CE.out _ (HX.out _)))))
    refine wpQuiet_nil ?_
    intro z hwz
    obtain ⟨u0, hu⟩ := hwz
    have AZ : Hid (Ab w z) := by rw [hu]; exact HX.out u0
    clear hu u0
    clear HU HU1 HX DD0 s0 s1 s2 s3
    clear E UU
    go_wp2
    go_ret
    exact ⟨rfl, AZ.out⟩
theorem fits19_at (gb : Nat) (pb pw pt ps : Option Addr) (lb cb lw cw lt ct ls cs : Nat) (sky st : Int) {n : Nat} (q : Bool) (w : World) (g : GridOf n gb w) (hq : q = true ↔ (lb = 6 * n * n ∧ lw = 6 * n * n ∧ lt = 6 * n * n ∧ ls = 12 * n * n)) :
    Calls Tryz.prog 18 #[.pointer (some ⟨gb, 0, none⟩), .agg #[.slice pb lb cb, .slice pw lw cw, .slice pt lt ct, .slice ps ls cs, .int .i64 sky, .int .i64 st]] w fun e w' => e = .returned (.bool q) ∧ Below w.heap.size w w' := by
  refine fitw19 gb pb pw pt ps lb cb lw cw lt ct ls cs sky st (6 * n * n) (12 * n * n) q w ?_ (fun v hv => (gCells_at (g.to hv)).mono fun _ _ h => ⟨h.1, by obtain ⟨_, rfl⟩ := h; exact Below.refl _ _⟩) (fun v hv => (gEdges_at (g.to hv)).mono fun _ _ h => ⟨h.1, by obtain ⟨_, rfl⟩ := h; exact Below.refl _ _⟩)
  have e : ∀ a b : Nat, ((a : Int) == (b : Int)) = decide (a = b) := fun a b => by rw [Bool.eq_iff_iff]; simp; omega
  have qf : ¬ (lb = 6 * n * n ∧ lw = 6 * n * n ∧ lt = 6 * n * n ∧ ls = 12 * n * n) → q = false := fun h => by
    cases hc : q
    · rfl
    · exact absurd (hq.1 hc) h
  rw [e, e, e, e]
  by_cases c1 : lb = 6 * n * n
  · by_cases c2 : lw = 6 * n * n
    · by_cases c3 : lt = 6 * n * n
      · refine .inr (.inr (.inr ⟨decide_eq_true c1, decide_eq_true c2, decide_eq_true c3, ?_⟩))
        rw [Bool.eq_iff_iff, decide_eq_true_eq, hq]
        exact ⟨fun h => ⟨c1, c2, c3, h⟩, fun h => h.2.2.2⟩
      · exact .inr (.inr (.inl ⟨decide_eq_true c1, decide_eq_true c2, decide_eq_false c3, qf (fun h => c3 h.2.2.1)⟩))
    · exact .inr (.inl ⟨decide_eq_true c1, decide_eq_false c2, qf (fun h => c2 h.2.1)⟩)
  · exact .inl ⟨decide_eq_false c1, qf (fun h => c1 h.1)⟩
set_option maxRecDepth 100000 in
set_option maxHeartbeats 16000000 in
theorem canbe_yes (p : Option Addr) (N c : Nat) (f : Nat → Int) (w : World) (hN : N ≤ 6144) (hf : Sh.IsI w p N f) (OK : Hid (okV N f)) :
    Calls Tryz.prog 19 #[.slice p N c] w fun e w' => e = .returned (.bool true) ∧ Below w.heap.size w w' := by
  have HF := hid hf
  have HN := hid hN
  clear hf hN
  go_enter Tryz.func19, Tryz.ntmps19
  go_wp2
  go_loopw [3, 8] (fun sv iv wr => ∃ k : Nat, k ≤ N ∧ iv = .int .i64 (k : Nat) ∧ sv = .int .i64 (4503599627370496 - Sh.sumN f k) ∧ (0 ≤ Sh.sumN f k ∧ Sh.sumN f k ≤ 4503599627370496) ∧ wr = w) (fun _ iv _ => N - (intOf iv).toNat)
  case atStart => exact ⟨0, by omega, rfl, rfl, ⟨Int.le_refl 0, by show (0 : Int) ≤ _; omega⟩, rfl⟩
  case round =>
    obtain ⟨k, hk, rfl, rfl, hb, hwr⟩ := hrel
    have hwr2 := hwr.symm
    subst hwr2
    have s1 := hb.1
    have s2 := hb.2
    obtain ⟨s, hs⟩ : ∃ s, 4503599627370496 - Sh.sumN f k = s := ⟨_, rfl⟩
    have SE := hid hs
    have s3 : 0 ≤ s := by omega
    have s4 : s ≤ 4503599627370496 := by omega
    rw [hs]
    clear hb
    by_cases hkn : k < N
    · have HK := hid hkn
      have kI : (k : Int) < N := by omega
      have kB : (k : Int) ≤ 6144 := by have := HN.out; omega
      obtain ⟨b0, o0, rfl⟩ := HF.out.some0 (show 0 < N by omega)
      obtain ⟨x, hx⟩ : ∃ x, f k = x := ⟨_, rfl⟩
      have xc := (HF.out.at0 hkn).2.2
      rw [hx] at xc
      have XE := hid hx
      have m3 : Sh.sumN f (k + 1) = Sh.sumN f k + x := by show Sh.sumN f k + f k = _; rw [hx]
      have M3 : Hid (4503599627370496 - Sh.sumN f (k + 1) = s - x) := by show _ = _; rw [m3]; omega
      have m1 := OK.out.1 k hkn
      have m2 := Sh.sumN_mono OK.out.1 (m := k + 1) (by omega)
      have m4 := OK.out.2
      rw [hx] at m1
      have n1 : 0 ≤ s - x := by omega
      have n2 : Hid (0 ≤ Sh.sumN f (k + 1) ∧ Sh.sumN f (k + 1) ≤ 4503599627370496) := ⟨by omega, by omega⟩
      have d1 : decide (x < 0) = false := decide_eq_false (by omega)
      have d2 : decide (s < x) = false := decide_eq_false (by omega)
      clear hx hs m2 m3 m4 hkn hk s1 s2
      go_wp2
      exact ⟨⟨k + 1, by have := HK.out; omega, by simp, by rw [M3.out], n2.out, by first | trivial | rfl⟩, by have := HK.out; simp [intOf]; omega⟩
    · have e6 : N = k := by omega
      subst e6
      go_wp2
      go_ret
      exact ⟨rfl, Below.refl _ _⟩
set_option maxRecDepth 100000 in
set_option maxHeartbeats 16000000 in
theorem canbe_no (p : Option Addr) (N c : Nat) (f : Nat → Int) (w : World) (hN : N ≤ 6144) (hf : Sh.IsI w p N f) (NO : Hid (¬ okV N f)) :
    Calls Tryz.prog 19 #[.slice p N c] w fun e w' => e = .returned (.bool false) ∧ Below w.heap.size w w' := by
  have HF := hid hf
  have HN := hid hN
  clear hf hN
  go_enter Tryz.func19, Tryz.ntmps19
  go_wp2
  go_loopw [3, 8] (fun sv iv wr => ∃ k : Nat, k ≤ N ∧ iv = .int .i64 (k : Nat) ∧ sv = .int .i64 (4503599627370496 - Sh.sumN f k) ∧ (0 ≤ Sh.sumN f k ∧ Sh.sumN f k ≤ 4503599627370496) ∧ (∀ i, i < k → 0 ≤ f i) ∧ wr = w) (fun _ iv _ => N - (intOf iv).toNat)
  case atStart => exact ⟨0, by omega, rfl, rfl, ⟨Int.le_refl 0, by show (0 : Int) ≤ _; omega⟩, fun i hi => absurd hi (Nat.not_lt_zero i), rfl⟩
  case round =>
    obtain ⟨k, hk, rfl, rfl, hb, g1, hwr⟩ := hrel
    have hwr2 := hwr.symm
    subst hwr2
    have G1 := hid g1
    clear g1
    have s1 := hb.1
    have s2 := hb.2
    obtain ⟨s, hs⟩ : ∃ s, 4503599627370496 - Sh.sumN f k = s := ⟨_, rfl⟩
    have SE := hid hs
    have s3 : 0 ≤ s := by omega
    have s4 : s ≤ 4503599627370496 := by omega
    rw [hs]
    clear hb
    by_cases hkn : k < N
    · have HK := hid hkn
      have kI : (k : Int) < N := by omega
      have kB : (k : Int) ≤ 6144 := by have := HN.out; omega
      obtain ⟨b0, o0, rfl⟩ := HF.out.some0 (show 0 < N by omega)
      obtain ⟨x, hx⟩ : ∃ x, f k = x := ⟨_, rfl⟩
      have xc := (HF.out.at0 hkn).2.2
      rw [hx] at xc
      have XE := hid hx
      have m3 : Sh.sumN f (k + 1) = Sh.sumN f k + x := by show Sh.sumN f k + f k = _; rw [hx]
      have M3 : Hid (4503599627370496 - Sh.sumN f (k + 1) = s - x) := by show _ = _; rw [m3]; omega
      by_cases q1 : x < 0
      · have d1 : decide (x < 0) = true := decide_eq_true q1
        clear hx hs m3 hkn hk s1 s2
        go_wp2
        go_ret
        exact ⟨rfl, Below.refl _ _⟩
      · have d1 : decide (x < 0) = false := decide_eq_false q1
        by_cases q2 : s < x
        · have d2 : decide (s < x) = true := decide_eq_true q2
          clear hx hs m3 hkn hk s1 s2
          go_wp2
          go_ret
          exact ⟨rfl, Below.refl _ _⟩
        · have d2 : decide (s < x) = false := decide_eq_false q2
          have n1 : 0 ≤ s - x := by omega
          have n2 : Hid (0 ≤ Sh.sumN f (k + 1) ∧ Sh.sumN f (k + 1) ≤ 4503599627370496) := ⟨by omega, by omega⟩
          have n3 : 0 ≤ x := by omega
          have G2 : Hid (∀ i, i < k + 1 → 0 ≤ f i) := fun i hi => by
            by_cases l : i < k
            · exact G1.out i l
            · obtain rfl : i = k := by omega
              rw [XE.out]
              omega
          clear q1 q2 hx hs m3 hkn hk s1 s2
          go_wp2
          exact ⟨⟨k + 1, by have := HK.out; omega, by simp, by rw [M3.out], n2.out, G2.out, by first | trivial | rfl⟩, by have := HK.out; simp [intOf]; omega⟩
    · have e6 : N = k := by omega
      subst e6
      exact absurd ⟨G1.out, s2⟩ NO.out
set_option maxRecDepth 100000 in
set_option maxHeartbeats 16000000 in
theorem runs19_at (x a : Int) (w : World) (h1 : -9223372036854775808 ≤ x ∧ x ≤ 9223372036854775807) (h2 : a ≤ 9223372036854775807) :
    Calls Tryz.prog 21 #[.int .i64 x, .int .i64 a] w fun e w' => e = .returned (.bool (decide (0 < x) && flt (dpB x a) 4602678819172646912)) ∧ Below w.heap.size w w' := by
  have CD := hid (depth_at x a w h1.2 h2)
  have dl : x ≤ 4503599627370496 → dpB x a < 18446744073709551616 := fun h => by
    have := dp_le (w := x) (a := a) (by omega) h2
    omega
  obtain ⟨d, hd⟩ : ∃ d, dpB x a = d := ⟨_, rfl⟩
  rw [hd] at CD
  rw [hd]
  clear hd dl
  cases e1 : decide (0 < x) with
  | false =>
    clear CD
    go_enter Tryz.func21, Tryz.ntmps21
    go_wp2
    go_ret
    exact ⟨rfl, Below.refl _ _⟩
  | true =>
    go_enter Tryz.func21, Tryz.ntmps21
    go_wp2_with fail
    refine CD.out.mono ?_
    rintro e9 v9 ⟨rfl, k, rfl⟩
    go_wp2
    go_ret
    exact ⟨rfl, Ab.drewN (Ab.refl w) k⟩
end Rv
end Go.Proofs.YtbibhgikmnpbfaaGreatDoor

namespace Go.Proofs.YtbibhgikmnpbfaaGreatDoor
open Go.RowKit
namespace Sh
theorem ret_int {k : IntKind} {a b : Int} (h : a = b) : Ending.returned (.int k a) = .returned (.int k b) := by rw [h]
theorem pow_pos (k : Nat) : 0 < 2 ^ k := Nat.two_pow_pos k
theorem and32 (z : Int) (h0 : 0 ≤ z) (h1 : z < 18446744073709551616) : bits .and .u64 z 4294967295 = z % 4294967296 := by go_bits2
set_option maxHeartbeats 2000000 in
theorem mul64_go (x y x0 x1 y0 y1 a b c d t w1 l : Int) (w : World) (_hx : 0 ≤ x) (_hx1 : x < 18446744073709551616) (_hy : 0 ≤ y) (_hy1 : y < 18446744073709551616)
    (e1 : bits .and .u64 x 4294967295 = x0) (e2 : x / 4294967296 = x1) (e3 : bits .and .u64 y 4294967295 = y0) (e4 : y / 4294967296 = y1)
    (ma : IntKind.u64.wrap (x0 * y0) = a) (mb : IntKind.u64.wrap (x1 * y0) = b) (mc : IntKind.u64.wrap (x0 * y1) = c) (md : IntKind.u64.wrap (x1 * y1) = d) (ml : IntKind.u64.wrap (x * y) = l)
    (a0 : 0 ≤ a) (a1 : a ≤ 18446744065119617025) (b0 : 0 ≤ b) (b1 : b ≤ 18446744065119617025) (c0 : 0 ≤ c) (c1 : c ≤ 18446744065119617025) (d0 : 0 ≤ d) (d1 : d ≤ 18446744065119617025)
    (ht : b + a / 4294967296 = t) (t0 : 0 ≤ t) (t1 : t < 18446744073709551616) (hw : bits .and .u64 t 4294967295 = w1) (w0 : 0 ≤ w1) (w2 : w1 < 4294967296) (hr : d + t / 4294967296 + (w1 + c) / 4294967296 < 18446744073709551616) :
    Calls Tryz.prog 54 #[.int .u64 x, .int .u64 y] w fun r w' => r = .returned (.tuple #[.int .u64 (d + t / 4294967296 + (w1 + c) / 4294967296), .int .u64 l]) ∧ w' = w := by
  go_enter Tryz.func54, Tryz.ntmps54
  go_wp2
  go_ret2
  exact ⟨rfl, rfl⟩
theorem u64wr (v : Int) : IntKind.u64.wrap v = v % 18446744073709551616 := by
  simp [IntKind.wrap, IntKind.bits, IntKind.signed]
theorem prod_le (a b : Int) (ha : 0 ≤ a) (ha1 : a ≤ 4294967295) (hb : 0 ≤ b) (hb1 : b ≤ 4294967295) : 0 ≤ a * b ∧ a * b ≤ 18446744065119617025 := by
  refine ⟨Int.mul_nonneg ha hb, ?_⟩
  exact Int.le_trans (Int.mul_le_mul ha1 hb1 hb (by decide)) (by decide)
/-- THE LONG PRODUCT -/
theorem mul64_at (x y : Int) (w : World) (hx : 0 ≤ x) (hx1 : x < 18446744073709551616) (hy : 0 ≤ y) (hy1 : y < 18446744073709551616) :
    Calls Tryz.prog 54 #[.int .u64 x, .int .u64 y] w fun r w' => r = .returned (.tuple #[.int .u64 (x * y / 18446744073709551616), .int .u64 (x * y % 18446744073709551616)]) ∧ w' = w := by
  obtain ⟨a0, a1⟩ := prod_le (x % 4294967296) (y % 4294967296) (by omega) (by omega) (by omega) (by omega)
  obtain ⟨b0, b1⟩ := prod_le (x / 4294967296) (y % 4294967296) (by omega) (by omega) (by omega) (by omega)
  obtain ⟨c0, c1⟩ := prod_le (x % 4294967296) (y / 4294967296) (by omega) (by omega) (by omega) (by omega)
  obtain ⟨d0, d1⟩ := prod_le (x / 4294967296) (y / 4294967296) (by omega) (by omega) (by omega) (by omega)
  have hxy : x * y = x % 4294967296 * (y % 4294967296) + (x / 4294967296 * (y % 4294967296) + x % 4294967296 * (y / 4294967296)) * 4294967296 + x / 4294967296 * (y / 4294967296) * 18446744073709551616 := by
    have ex : x = x % 4294967296 + x / 4294967296 * 4294967296 := by omega
    have ey : y = y % 4294967296 + y / 4294967296 * 4294967296 := by omega
    generalize x % 4294967296 = p at *
    generalize x / 4294967296 = q at *
    generalize y % 4294967296 = r at *
    generalize y / 4294967296 = s at *
    subst ex ey
    rw [Int.add_mul, Int.mul_add, Int.mul_add]
    have z1 : p * (s * 4294967296) = p * s * 4294967296 := by rw [Int.mul_assoc]
    have z2 : q * 4294967296 * r = q * r * 4294967296 := by rw [Int.mul_assoc, Int.mul_comm 4294967296, ← Int.mul_assoc]
    have z3 : q * 4294967296 * (s * 4294967296) = q * s * 18446744073709551616 := by
      rw [Int.mul_assoc, Int.mul_left_comm 4294967296, ← Int.mul_assoc]; rfl
    rw [z1, z2, z3]
    generalize p * r = A
    generalize p * s = B
    generalize q * r = C
    generalize q * s = D
    omega
  have w1 := and32 (x / 4294967296 * (y % 4294967296) + x % 4294967296 * (y % 4294967296) / 4294967296)
  have ma := u64wr (x % 4294967296 * (y % 4294967296))
  have mb := u64wr (x / 4294967296 * (y % 4294967296))
  have mc := u64wr (x % 4294967296 * (y / 4294967296))
  have md := u64wr (x / 4294967296 * (y / 4294967296))
  have e1 := and32 x hx hx1
  have e3 := and32 y hy hy1
  have h := mul64_go x y (x % 4294967296) (x / 4294967296) (y % 4294967296) (y / 4294967296)
  generalize x % 4294967296 * (y % 4294967296) = a at *
  generalize x / 4294967296 * (y % 4294967296) = b at *
  generalize x % 4294967296 * (y / 4294967296) = c at *
  generalize x / 4294967296 * (y / 4294967296) = d at *
  have w1' := w1 (by omega) (by omega)
  have h2 := h a b c d _ _ _ w hx hx1 hy hy1 e1 rfl e3 rfl (by rw [ma]; omega) (by rw [mb]; omega) (by rw [mc]; omega) (by rw [md]; omega) (u64wr _) a0 a1 b0 b1 c0 c1 d0 d1 rfl (by omega) (by omega) w1' (by omega) (by omega) (by omega)
  have e : d + (b + a / 4294967296) / 4294967296 + ((b + a / 4294967296) % 4294967296 + c) / 4294967296 = x * y / 18446744073709551616 := by
    rw [hxy]; omega
  rw [e] at h2
  exact h2
theorem log2_of {n k : Nat} (h : 2 ^ k ≤ n) (h' : n < 2 ^ (k + 1)) : n.log2 = k := by
  have : n ≠ 0 := by have := pow_pos k; omega
  exact (Nat.log2_eq_iff this).2 ⟨h, h'⟩

theorem ba_get (b : ByteArray) (i : Nat) (h : i < b.size) : b[i]'h = (b[i]?).getD 0 := by simp [h]
/-- how many bits a number below 256 has -/
def len8 (n : Nat) : Int := if n = 0 then 0 else ((n.log2 + 1 : Nat) : Int)
set_option maxHeartbeats 2000000 in
set_option maxRecDepth 100000 in
theorem len_0 (x : Int) (w : World) (h0 : 0 ≤ x) (h1 : x < 18446744073709551616) (t32 : x < 4294967296) (t16 : x < 65536) (t8 : x < 256) : Calls Tryz.prog 118 #[.int .u64 x] w fun e w' => e = .returned (.int .i64 (0 + len8 x.toNat)) ∧ w' = w := by
  go_enter Tryz.func118, Tryz.ntmps118
  go_wp2
  go_ret
  refine ⟨ret_int ?_, rfl⟩
  have hl : x.toNat < 256 := by omega
  rw [ba_get]
  generalize hn : x.toNat = n at hl ⊢
  clear hn
  revert n
  decide +kernel
set_option maxHeartbeats 2000000 in
set_option maxRecDepth 100000 in
theorem len_8 (x y0 : Int) (w : World) (h0 : 0 ≤ x) (h1 : x < 18446744073709551616) (t32 : x < 4294967296) (t16 : x < 65536) (t8 : 256 ≤ x) (e8 : x / 256 = y0) (p8 : 0 ≤ y0) (fl : y0 < 256) : Calls Tryz.prog 118 #[.int .u64 x] w fun e w' => e = .returned (.int .i64 (8 + len8 y0.toNat)) ∧ w' = w := by
  go_enter Tryz.func118, Tryz.ntmps118
  go_wp2
  go_ret
  refine ⟨ret_int ?_, rfl⟩
  have hl : y0.toNat < 256 := by omega
  rw [ba_get]
  generalize hn : y0.toNat = n at hl ⊢
  clear hn
  revert n
  decide +kernel
set_option maxHeartbeats 2000000 in
set_option maxRecDepth 100000 in
theorem len_16 (x y0 : Int) (w : World) (h0 : 0 ≤ x) (h1 : x < 18446744073709551616) (t32 : x < 4294967296) (t16 : 65536 ≤ x) (e16 : x / 65536 = y0) (p16 : 0 ≤ y0) (t8 : y0 < 256) (_fl : y0 < 256) : Calls Tryz.prog 118 #[.int .u64 x] w fun e w' => e = .returned (.int .i64 (16 + len8 y0.toNat)) ∧ w' = w := by
  go_enter Tryz.func118, Tryz.ntmps118
  go_wp2
  go_ret
  refine ⟨ret_int ?_, rfl⟩
  have hl : y0.toNat < 256 := by omega
  rw [ba_get]
  generalize hn : y0.toNat = n at hl ⊢
  clear hn
  revert n
  decide +kernel
set_option maxHeartbeats 2000000 in
set_option maxRecDepth 100000 in
theorem len_24 (x y0 y1 : Int) (w : World) (h0 : 0 ≤ x) (h1 : x < 18446744073709551616) (t32 : x < 4294967296) (t16 : 65536 ≤ x) (e16 : x / 65536 = y0) (_p16 : 0 ≤ y0) (t8 : 256 ≤ y0) (e8 : y0 / 256 = y1) (p8 : 0 ≤ y1) (fl : y1 < 256) : Calls Tryz.prog 118 #[.int .u64 x] w fun e w' => e = .returned (.int .i64 (24 + len8 y1.toNat)) ∧ w' = w := by
  go_enter Tryz.func118, Tryz.ntmps118
  go_wp2
  go_ret
  refine ⟨ret_int ?_, rfl⟩
  have hl : y1.toNat < 256 := by omega
  rw [ba_get]
  generalize hn : y1.toNat = n at hl ⊢
  clear hn
  revert n
  decide +kernel
set_option maxHeartbeats 2000000 in
set_option maxRecDepth 100000 in
theorem len_32 (x y0 : Int) (w : World) (_h0 : 0 ≤ x) (_h1 : x < 18446744073709551616) (t32 : 4294967296 ≤ x) (e32 : x / 4294967296 = y0) (p32 : 0 ≤ y0) (t16 : y0 < 65536) (t8 : y0 < 256) (_fl : y0 < 256) : Calls Tryz.prog 118 #[.int .u64 x] w fun e w' => e = .returned (.int .i64 (32 + len8 y0.toNat)) ∧ w' = w := by
  go_enter Tryz.func118, Tryz.ntmps118
  go_wp2
  go_ret
  refine ⟨ret_int ?_, rfl⟩
  have hl : y0.toNat < 256 := by omega
  rw [ba_get]
  generalize hn : y0.toNat = n at hl ⊢
  clear hn
  revert n
  decide +kernel
set_option maxHeartbeats 2000000 in
set_option maxRecDepth 100000 in
theorem len_40 (x y0 y1 : Int) (w : World) (_h0 : 0 ≤ x) (_h1 : x < 18446744073709551616) (t32 : 4294967296 ≤ x) (e32 : x / 4294967296 = y0) (p32 : 0 ≤ y0) (t16 : y0 < 65536) (t8 : 256 ≤ y0) (e8 : y0 / 256 = y1) (p8 : 0 ≤ y1) (fl : y1 < 256) : Calls Tryz.prog 118 #[.int .u64 x] w fun e w' => e = .returned (.int .i64 (40 + len8 y1.toNat)) ∧ w' = w := by
  go_enter Tryz.func118, Tryz.ntmps118
  go_wp2
  go_ret
  refine ⟨ret_int ?_, rfl⟩
  have hl : y1.toNat < 256 := by omega
  rw [ba_get]
  generalize hn : y1.toNat = n at hl ⊢
  clear hn
  revert n
  decide +kernel
set_option maxHeartbeats 2000000 in
set_option maxRecDepth 100000 in
theorem len_48 (x y0 y1 : Int) (w : World) (_h0 : 0 ≤ x) (_h1 : x < 18446744073709551616) (t32 : 4294967296 ≤ x) (e32 : x / 4294967296 = y0) (_p32 : 0 ≤ y0) (t16 : 65536 ≤ y0) (e16 : y0 / 65536 = y1) (p16 : 0 ≤ y1) (t8 : y1 < 256) (_fl : y1 < 256) : Calls Tryz.prog 118 #[.int .u64 x] w fun e w' => e = .returned (.int .i64 (48 + len8 y1.toNat)) ∧ w' = w := by
  go_enter Tryz.func118, Tryz.ntmps118
  go_wp2
  go_ret
  refine ⟨ret_int ?_, rfl⟩
  have hl : y1.toNat < 256 := by omega
  rw [ba_get]
  generalize hn : y1.toNat = n at hl ⊢
  clear hn
  revert n
  decide +kernel
set_option maxHeartbeats 2000000 in
set_option maxRecDepth 100000 in
theorem len_56 (x y0 y1 y2 : Int) (w : World) (_h0 : 0 ≤ x) (_h1 : x < 18446744073709551616) (t32 : 4294967296 ≤ x) (e32 : x / 4294967296 = y0) (_p32 : 0 ≤ y0) (t16 : 65536 ≤ y0) (e16 : y0 / 65536 = y1) (_p16 : 0 ≤ y1) (t8 : 256 ≤ y1) (e8 : y1 / 256 = y2) (p8 : 0 ≤ y2) (fl : y2 < 256) : Calls Tryz.prog 118 #[.int .u64 x] w fun e w' => e = .returned (.int .i64 (56 + len8 y2.toNat)) ∧ w' = w := by
  go_enter Tryz.func118, Tryz.ntmps118
  go_wp2
  go_ret
  refine ⟨ret_int ?_, rfl⟩
  have hl : y2.toNat < 256 := by omega
  rw [ba_get]
  generalize hn : y2.toNat = n at hl ⊢
  clear hn
  revert n
  decide +kernel
theorem log2_shift (n s : Nat) (h : 0 < n / 2 ^ s) : n.log2 = (n / 2 ^ s).log2 + s := by
  have hy : n / 2 ^ s ≠ 0 := by omega
  have h1 := Nat.log2_self_le hy
  have h2 := Nat.lt_log2_self (n := n / 2 ^ s)
  apply log2_of
  · rw [Nat.pow_add]
    exact Nat.le_trans (Nat.mul_le_mul_right _ h1) (Nat.div_mul_le_self n (2 ^ s))
  · have : n < (n / 2 ^ s + 1) * 2 ^ s := by
      have := Nat.lt_mul_div_succ n (pow_pos s)
      rw [Nat.mul_comm] at this; exact this
    refine Nat.lt_of_lt_of_le this ?_
    have e : (n / 2 ^ s).log2 + s + 1 = ((n / 2 ^ s).log2 + 1) + s := by omega
    rw [e, Nat.pow_add]
    exact Nat.mul_le_mul_right _ h2
theorem len8_log (n s : Nat) (h : 0 < n / 2 ^ s) : (s : Int) + len8 (n / 2 ^ s) = ((n.log2 + 1 : Nat) : Int) := by
  have := log2_shift n s h
  unfold len8
  rw [if_neg (by omega)]; omega
theorem len64_at (x : Nat) (w : World) (h0 : 0 < x) (h1 : x < 18446744073709551616) :
    Calls Tryz.prog 118 #[.int .u64 (x : Int)] w fun e w' => e = .returned (.int .i64 ((x.log2 + 1 : Nat) : Int)) ∧ w' = w := by
  by_cases a : x < 4294967296
  · by_cases b : x < 65536
    · by_cases c : x < 256
      · have h := len_0 (x : Int) w (by omega) (by omega) (by omega) (by omega) (by omega)
        have e := len8_log x 0 (by rw [Nat.pow_zero, Nat.div_one]; exact h0)
        rw [Nat.pow_zero, Nat.div_one] at e
        rw [Int.toNat_natCast] at h
        rw [← e]; exact h
      · have h := len_8 (x : Int) _ w (by omega) (by omega) (by omega) (by omega) (by omega) rfl (by omega) (by omega)
        have e := len8_log x 8 (by omega)
        rw [show ((x : Int) / 256).toNat = x / 2 ^ 8 by omega] at h
        rw [← e]; exact h
    · by_cases c : x / 65536 < 256
      · have h := len_16 (x : Int) _ w (by omega) (by omega) (by omega) (by omega) rfl (by omega) (by omega) (by omega)
        have e := len8_log x 16 (by omega)
        rw [show ((x : Int) / 65536).toNat = x / 2 ^ 16 by omega] at h
        rw [← e]; exact h
      · have h := len_24 (x : Int) _ _ w (by omega) (by omega) (by omega) (by omega) rfl (by omega) (by omega) rfl (by omega) (by omega)
        have e := len8_log x 24 (by omega)
        rw [show ((x : Int) / 65536 / 256).toNat = x / 2 ^ 24 by omega] at h
        rw [← e]; exact h
  · by_cases b : x / 4294967296 < 65536
    · by_cases c : x / 4294967296 < 256
      · have h := len_32 (x : Int) _ w (by omega) (by omega) (by omega) rfl (by omega) (by omega) (by omega) (by omega)
        have e := len8_log x 32 (by omega)
        rw [show ((x : Int) / 4294967296).toNat = x / 2 ^ 32 by omega] at h
        rw [← e]; exact h
      · have h := len_40 (x : Int) _ _ w (by omega) (by omega) (by omega) rfl (by omega) (by omega) (by omega) rfl (by omega) (by omega)
        have e := len8_log x 40 (by omega)
        rw [show ((x : Int) / 4294967296 / 256).toNat = x / 2 ^ 40 by omega] at h
        rw [← e]; exact h
    · by_cases c : x / 4294967296 / 65536 < 256
      · have h := len_48 (x : Int) _ _ w (by omega) (by omega) (by omega) rfl (by omega) (by omega) rfl (by omega) (by omega) (by omega)
        have e := len8_log x 48 (by omega)
        rw [show ((x : Int) / 4294967296 / 65536).toNat = x / 2 ^ 48 by omega] at h
        rw [← e]; exact h
      · have h := len_56 (x : Int) _ _ _ w (by omega) (by omega) (by omega) rfl (by omega) (by omega) rfl (by omega) (by omega) rfl (by omega) (by omega)
        have e := len8_log x 56 (by omega)
        rw [show ((x : Int) / 4294967296 / 65536 / 256).toNat = x / 2 ^ 56 by omega] at h
        rw [← e]; exact h

theorem two_pow_cast (k : Nat) : ((2 : Int) ^ k) = ((2 ^ k : Nat) : Int) := by rw [Int.natCast_pow]; rfl
theorem or_add (a b s : Nat) (hb : b < 2 ^ s) (h : a * 2 ^ s + b < 18446744073709551616) : bits .or .u64 ((a * 2 ^ s : Nat) : Int) (b : Int) = ((a * 2 ^ s + b : Nat) : Int) := by
  show IntKind.u64.wrap ((BitVec.ofInt 64 ((a * 2 ^ s : Nat) : Int) ||| BitVec.ofInt 64 (b : Int)).toNat : Int) = _
  rw [BitVec.toNat_or, ofInt_u64 _ (by omega), ofInt_u64 _ (by omega)]
  have := Nat.shiftLeft_add_eq_or_of_lt hb a
  rw [Nat.shiftLeft_eq] at this
  rw [← this, u64wr]
  omega

set_option maxRecDepth 100000 in
theorem lead_go (x n : Int) (w : World) (L : Hid (Calls Tryz.prog 118 #[.int .u64 x] w fun e w' => e = .returned (.int .i64 n) ∧ w' = w)) (h0 : 0 ≤ n) (h1 : n ≤ 64) : Calls Tryz.prog 83 #[.int .u64 x] w fun e w' => e = .returned (.int .i64 (64 - n)) ∧ w' = w := by
  go_enter Tryz.func83, Tryz.ntmps83
  go_wp2_with fail
  refine L.out.mono ?_
  rintro e9 v ⟨rfl, hv⟩
  have hv2 := hv.symm
  subst hv2
  go_wp2
  go_ret
  exact ⟨rfl, rfl⟩
/-- HOW MANY ZEROS LEAD -/
theorem lead_at (x : Nat) (w : World) (h0 : 0 < x) (h1 : x < 18446744073709551616) : Calls Tryz.prog 83 #[.int .u64 (x : Int)] w fun e w' => e = .returned (.int .i64 (64 - ((x.log2 + 1 : Nat) : Int))) ∧ w' = w := by
  have l : x.log2 < 64 := (Nat.log2_lt (by omega)).2 h1
  exact lead_go _ _ w (len64_at x w h0 h1) (by omega) (by omega)
end Sh
end Go.Proofs.YtbibhgikmnpbfaaGreatDoor

namespace Go.Proofs.YtbibhgikmnpbfaaGreatDoor.Sh
/-- the guess so far -/
def DI (y yn1 u32 U q rh : Int) : Prop := q * yn1 + rh = u32 ∧ U / y ≤ q ∧ 0 ≤ rh ∧ 0 ≤ q
section
variable {y yn1 yn0 u32 u1 U q rh : Int}
theorem DI.start (hy : y = yn1 * 4294967296 + yn0) (h0 : 0 ≤ yn0) (h1 : 0 < yn1) (hu : U = u32 * 4294967296 + u1) (hu1 : 0 ≤ u1 ∧ u1 < 4294967296) (hu0 : 0 ≤ u32) : DI y yn1 u32 U (u32 / yn1) (u32 - u32 / yn1 * yn1) := by
  have d := div_two (a := u32) h1
  rw [Int.mul_comm] at d
  have q0 : 0 ≤ u32 / yn1 := Int.ediv_nonneg hu0 (by omega)
  refine ⟨by omega, ?_, by omega, q0⟩
  generalize u32 / yn1 = k at *
  have hy0 : 0 < y := by omega
  refine Int.le_of_lt_add_one (Int.ediv_lt_of_lt_mul hy0 ?_)
  have e1 : (k + 1) * y = (k * yn1 + yn1) * 4294967296 + (k + 1) * yn0 := by
    rw [hy, Int.mul_add, ← Int.mul_assoc, Int.add_mul k 1 yn1, Int.one_mul]
  have e2 : 0 ≤ (k + 1) * yn0 := Int.mul_nonneg (by omega) h0
  rw [e1]
  have e3 : u32 + 1 ≤ k * yn1 + yn1 := by omega
  omega
/-- the test against the whole -/
theorem DI.test (hy : y = yn1 * 4294967296 + yn0) (hu : U = u32 * 4294967296 + u1) (h : DI y yn1 u32 U q rh) : (4294967296 * rh + u1 < q * yn0 ↔ U < q * y) := by
  have e : q * y = q * yn1 * 4294967296 + q * yn0 := by rw [hy, Int.mul_add, ← Int.mul_assoc]
  have h1 := h.1
  rw [e, hu]
  constructor <;> intro k <;> omega
theorem DI.small (hy0 : 0 < y) (hu : U = u32 * 4294967296 + u1) (hu1 : 0 ≤ u1 ∧ u1 < 4294967296) (hl : u32 < y) : U / y < 4294967296 := by
  refine Int.ediv_lt_of_lt_mul hy0 ?_
  omega
theorem DI.next (hy : y = yn1 * 4294967296 + yn0) (hy0 : 0 < y) (hu : U = u32 * 4294967296 + u1) (hu1 : 0 ≤ u1 ∧ u1 < 4294967296) (hl : u32 < y) (hU : 0 ≤ U) (h1 : 0 < yn1) (h : DI y yn1 u32 U q rh) (c : 4294967296 ≤ q ∨ 4294967296 * rh + u1 < q * yn0) : DI y yn1 u32 U (q - 1) (rh + yn1) := by
  have lt : U / y < q := by
    rcases c with c | c
    · have := DI.small hy0 hu hu1 hl; omega
    · have k := (DI.test hy hu h).1 c
      exact Int.ediv_lt_of_lt_mul hy0 k
  have p := Int.ediv_nonneg hU (show 0 ≤ y by omega)
  obtain ⟨a, b, r, s⟩ := h
  refine ⟨?_, by omega, by omega, by omega⟩
  rw [Int.sub_mul, Int.one_mul]
  omega
theorem DI.done (hy : y = yn1 * 4294967296 + yn0) (hy0 : 0 < y) (hu : U = u32 * 4294967296 + u1) (h : DI y yn1 u32 U q rh) (c : ¬ 4294967296 * rh + u1 < q * yn0) : q = U / y := by
  have k : q * y ≤ U := by
    have := (DI.test hy hu h)
    rcases Int.lt_or_le U (q * y) with l | l
    · exact absurd (this.2 l) c
    · exact l
  have g := h.2.1
  have l := (Int.le_ediv_iff_mul_le hy0).2 k
  omega
/-- where the rest is great the test would not strike -/
theorem DI.great (hy : y = yn1 * 4294967296 + yn0) (h0 : 0 ≤ yn0 ∧ yn0 < 4294967296) (h1 : 0 < yn1) (hu1 : 0 ≤ u1) (hl : u32 < y) (h : DI y yn1 u32 U q rh) (g : 4294967296 ≤ rh) : q < 4294967296 ∧ ¬ 4294967296 * rh + u1 < q * yn0 := by
  obtain ⟨a, b, r, s⟩ := h
  have lq : q < 4294967296 := by
    have k : yn1 * q < yn1 * 4294967296 := by
      have : yn1 * q = q * yn1 := Int.mul_comm _ _
      omega
    exact Int.lt_of_mul_lt_mul_left k (by omega)
  refine ⟨lq, fun c => ?_⟩
  have m : q * yn0 ≤ 4294967295 * 4294967295 := Int.mul_le_mul (by omega) (by omega) h0.1 (by omega)
  have e : (4294967295 : Int) * 4294967295 = 18446744065119617025 := by decide
  omega
end
end Go.Proofs.YtbibhgikmnpbfaaGreatDoor.Sh

namespace Go.Proofs.YtbibhgikmnpbfaaGreatDoor
open Go.RowKit
namespace Sh
set_option maxRecDepth 100000 in
set_option maxHeartbeats 4000000 in
theorem div_zero_go (lo y : Int) (w : World) (hy : 0 < y) (hy2 : y < 18446744073709551616) (hl : 0 ≤ lo) (hl2 : lo < 18446744073709551616) :
    Calls Tryz.prog 55 #[.int .u64 0, .int .u64 lo, .int .u64 y] w fun e w' => (∃ r, e = .returned (.tuple #[.int .u64 (lo / y), .int .u64 r])) ∧ w' = w.drew := by
  have h0 : (y == 0) = false := by simp; omega
  have h1 : decide (y ≤ 0) = false := decide_eq_false (by omega)
  go_enter Tryz.func55, Tryz.ntmps55
  go_wp2
  go_region
  go_wp2
  go_ret2
  exact ⟨⟨_, rfl⟩, rfl⟩
set_option maxRecDepth 100000 in
set_option maxHeartbeats 8000000 in
theorem div_go (hi lo y s Y a1 a0 u32 u10 u1 u0 U Q1 qa ra n21 V Q0 qb rb R : Int) (w : World) (h0 : 0 < hi) (hy : hi < y) (_hy2 : y < 9223372036854775808) (_hl : 0 ≤ lo) (_hl2 : lo < 18446744073709551616)
    (LZ : Hid (∀ v, Calls Tryz.prog 83 #[.int .u64 y] v fun e w' => e = .returned (.int .i64 s) ∧ w' = v))
    (s0 : 0 < s) (s1 : s < 64)
    (eY : IntKind.u64.wrap (y * 2 ^ s.toNat) = Y) (_Y0 : 0 ≤ Y) (_Y1 : Y < 18446744073709551616) (e1 : Y / 4294967296 = a1) (e0 : bits .and .u64 Y 4294967295 = a0)
    (eu : bits .or .u64 (IntKind.u64.wrap (hi * 2 ^ s.toNat)) (lo / 2 ^ (64 - s).toNat) = u32)
    (el : IntKind.u64.wrap (lo * 2 ^ s.toNat) = u10) (_l0 : 0 ≤ u10) (_l1 : u10 < 18446744073709551616) (f1 : u10 / 4294967296 = u1) (f0 : bits .and .u64 u10 4294967295 = u0) (a1p : 0 < a1) (a1q : a1 < 4294967296) (a0p : 0 ≤ a0) (a0q : a0 < 4294967296) (u32p : 0 ≤ u32) (u32q : u32 < 18446744073709551616) (u1p : 0 ≤ u1) (u1q : u1 < 4294967296) (u0p : 0 ≤ u0) (u0q : u0 < 4294967296)
    (eqa : u32 / a1 = qa) (era : IntKind.u64.wrap (u32 - IntKind.u64.wrap (qa * a1)) = ra) (qap : 0 ≤ qa) (qaq : qa < 18446744073709551616) (_rap : 0 ≤ ra) (raq : ra < 4294967296)
    (HY : Hid (Y = a1 * 4294967296 + a0)) (HY0 : Hid (0 < Y)) (HAU : Hid (U = u32 * 4294967296 + u1)) (HA0 : Hid (0 ≤ U)) (HAL : Hid (u32 < Y)) (HAQ : Hid (U / Y = Q1)) (HAS : Hid (DI Y a1 u32 U qa ra))
    (en : IntKind.u64.wrap (IntKind.u64.wrap (IntKind.u64.wrap (u32 * 4294967296) + u1) - IntKind.u64.wrap (Q1 * Y)) = n21) (np : 0 ≤ n21) (nq : n21 < 18446744073709551616) (Q1p : 0 ≤ Q1) (Q1q : Q1 < 4294967296)
    (eqb : n21 / a1 = qb) (erb : IntKind.u64.wrap (n21 - IntKind.u64.wrap (qb * a1)) = rb) (_qbp : 0 ≤ qb) (qbq : qb < 18446744073709551616) (_rbp : 0 ≤ rb) (rbq : rb < 4294967296)
    (HBU : Hid (V = n21 * 4294967296 + u0)) (HB0 : Hid (0 ≤ V)) (HBL : Hid (n21 < Y)) (HBQ : Hid (V / Y = Q0)) (HBS : Hid (DI Y a1 n21 V qb rb)) (Q0p : 0 ≤ Q0) (Q0q : Q0 < 4294967296) (RE : Hid (Q1 * 4294967296 + Q0 = R)) :
    Calls Tryz.prog 55 #[.int .u64 hi, .int .u64 lo, .int .u64 y] w fun e w' => (∃ r, e = .returned (.tuple #[.int .u64 R, .int .u64 r])) ∧ w' = w := by
  have g0 : (y == 0) = false := by simp; omega
  have g1 : decide (y ≤ hi) = false := decide_eq_false (by omega)
  have g2 : (hi == 0) = false := by simp; omega
  go_enter Tryz.func55, Tryz.ntmps55
  go_wp2_with fail
  refine (LZ.out _).mono ?_
  rintro e9 v ⟨rfl, hv⟩
  have hv2 := hv.symm
  subst hv2
  go_wp2
  clear g0 g1 g2 LZ eY eu el
  go_loopw [15, 16] (fun qv rv w8 => ∃ (q r : Int), qv = .int .u64 q ∧ rv = .int .u64 r ∧ DI Y a1 u32 U q r ∧ r < 4294967296 ∧ q < 18446744073709551616 ∧ w8 = w) (fun qv _ _ => (intOf qv).toNat)
  case atStart => exact ⟨_, _, rfl, rfl, by first | exact HAS.out | (rw [eqa]; exact HAS.out), by omega, by omega, rfl⟩
  case round =>
    obtain ⟨q, r, rfl, rfl, iv, rbd, qbd, hw8⟩ := hrel
    have hw9 := hw8.symm
    subst hw9
    have q0 := iv.2.2.2
    have r0 := iv.2.2.1
    have IV := hid iv
    clear iv
    by_cases c1 : 4294967296 ≤ q
    · have d1 : decide (4294967296 ≤ q) = true := decide_eq_true c1
      have CC : Hid (4294967296 ≤ q ∨ 4294967296 * r + u1 < q * a0) := Or.inl c1
      have NX := hid (DI.next HY.out HY0.out HAU.out ⟨by omega, by omega⟩ HAL.out HA0.out a1p IV.out CC.out)
      have q1 : 1 ≤ q := by have := NX.out.2.2.2; omega
      clear CC
      by_cases b : 4294967296 ≤ r + a1
      · have d3 : decide (4294967296 ≤ r + a1) = true := decide_eq_true b
        have GR := hid (DI.great (u1 := u1) HY.out ⟨by omega, by omega⟩ a1p (by omega) HAL.out NX.out b)
        have qe : q - 1 = Q1 := (DI.done HY.out HY0.out HAU.out NX.out GR.out.2).trans HAQ.out
        clear IV NX GR
        go_wp2
        go_loopw [16, 18] (fun rv qv w8 => ∃ (q r : Int), qv = .int .u64 q ∧ rv = .int .u64 r ∧ DI Y a1 n21 V q r ∧ r < 4294967296 ∧ q < 18446744073709551616 ∧ w8 = w) (fun _ qv _ => (intOf qv).toNat)
        case atStart => exact ⟨_, _, rfl, rfl, by first | exact HBS.out | (rw [eqb]; exact HBS.out), by omega, by omega, rfl⟩
        case round =>
          obtain ⟨q, r, rfl, rfl, iv, rbd, qbd, hw8⟩ := hrel
          have hw9 := hw8.symm
          subst hw9
          have q0 := iv.2.2.2
          have r0 := iv.2.2.1
          have IV := hid iv
          clear iv
          by_cases c1 : 4294967296 ≤ q
          · have d1 : decide (4294967296 ≤ q) = true := decide_eq_true c1
            have CC : Hid (4294967296 ≤ q ∨ 4294967296 * r + u0 < q * a0) := Or.inl c1
            have NX := hid (DI.next HY.out HY0.out HBU.out ⟨by omega, by omega⟩ HBL.out HB0.out a1p IV.out CC.out)
            have q1 : 1 ≤ q := by have := NX.out.2.2.2; omega
            clear CC
            by_cases b : 4294967296 ≤ r + a1
            · have d3 : decide (4294967296 ≤ r + a1) = true := decide_eq_true b
              have GR := hid (DI.great (u1 := u0) HY.out ⟨by omega, by omega⟩ a1p (by omega) HBL.out NX.out b)
              have qe : q - 1 = Q0 := (DI.done HY.out HY0.out HBU.out NX.out GR.out.2).trans HBQ.out
              clear IV NX GR
              go_wp2
              go_ret2
              exact ⟨⟨_, by rw [← RE.out]; rfl⟩, by first | trivial | rfl⟩
            · have d3 : decide (4294967296 ≤ r + a1) = false := decide_eq_false b
              go_wp2
              exact ⟨⟨_, _, rfl, rfl, NX.out, by omega, by omega, by first | trivial | rfl⟩, by simp [intOf] <;> omega⟩
          · have d1 : decide (4294967296 ≤ q) = false := decide_eq_false c1
            have pb := mul_bd (a := q) (b := a0) (m := 4294967295) (by omega) (by omega) (by omega) (by omega)
            obtain ⟨p, hp⟩ : ∃ p, q * a0 = p := ⟨_, rfl⟩
            have PE := hid hp
            rw [hp] at pb
            have p0 := pb.1
            have p1 : p ≤ 18446744065119617025 := Int.le_trans pb.2 (by decide)
            clear pb
            by_cases c2 : 4294967296 * r + u0 < p
            · have d2 : decide (4294967296 * r + u0 < p) = true := decide_eq_true c2
              have CC : Hid (4294967296 ≤ q ∨ 4294967296 * r + u0 < q * a0) := Or.inr (by rw [PE.out]; exact c2)
              have NX := hid (DI.next HY.out HY0.out HBU.out ⟨by omega, by omega⟩ HBL.out HB0.out a1p IV.out CC.out)
              have q1 : 1 ≤ q := by have := NX.out.2.2.2; omega
              clear CC
              by_cases b : 4294967296 ≤ r + a1
              · have d3 : decide (4294967296 ≤ r + a1) = true := decide_eq_true b
                have GR := hid (DI.great (u1 := u0) HY.out ⟨by omega, by omega⟩ a1p (by omega) HBL.out NX.out b)
                have qe : q - 1 = Q0 := (DI.done HY.out HY0.out HBU.out NX.out GR.out.2).trans HBQ.out
                clear IV NX GR
                go_wp2
                go_ret2
                exact ⟨⟨_, by rw [← RE.out]; rfl⟩, by first | trivial | rfl⟩
              · have d3 : decide (4294967296 ≤ r + a1) = false := decide_eq_false b
                go_wp2
                exact ⟨⟨_, _, rfl, rfl, NX.out, by omega, by omega, by first | trivial | rfl⟩, by simp [intOf] <;> omega⟩
            · have d2 : decide (4294967296 * r + u0 < p) = false := decide_eq_false c2
              have qe : q = Q0 := (DI.done HY.out HY0.out HBU.out IV.out (by rw [PE.out]; exact c2)).trans HBQ.out
              clear IV
              subst qe
              go_wp2
              go_ret2
              exact ⟨⟨_, by rw [← RE.out]; rfl⟩, by first | trivial | rfl⟩
      · have d3 : decide (4294967296 ≤ r + a1) = false := decide_eq_false b
        go_wp2
        exact ⟨⟨_, _, rfl, rfl, NX.out, by omega, by omega, by first | trivial | rfl⟩, by simp [intOf] <;> omega⟩
    · have d1 : decide (4294967296 ≤ q) = false := decide_eq_false c1
      have pb := mul_bd (a := q) (b := a0) (m := 4294967295) (by omega) (by omega) (by omega) (by omega)
      obtain ⟨p, hp⟩ : ∃ p, q * a0 = p := ⟨_, rfl⟩
      have PE := hid hp
      rw [hp] at pb
      have p0 := pb.1
      have p1 : p ≤ 18446744065119617025 := Int.le_trans pb.2 (by decide)
      clear pb
      by_cases c2 : 4294967296 * r + u1 < p
      · have d2 : decide (4294967296 * r + u1 < p) = true := decide_eq_true c2
        have CC : Hid (4294967296 ≤ q ∨ 4294967296 * r + u1 < q * a0) := Or.inr (by rw [PE.out]; exact c2)
        have NX := hid (DI.next HY.out HY0.out HAU.out ⟨by omega, by omega⟩ HAL.out HA0.out a1p IV.out CC.out)
        have q1 : 1 ≤ q := by have := NX.out.2.2.2; omega
        clear CC
        by_cases b : 4294967296 ≤ r + a1
        · have d3 : decide (4294967296 ≤ r + a1) = true := decide_eq_true b
          have GR := hid (DI.great (u1 := u1) HY.out ⟨by omega, by omega⟩ a1p (by omega) HAL.out NX.out b)
          have qe : q - 1 = Q1 := (DI.done HY.out HY0.out HAU.out NX.out GR.out.2).trans HAQ.out
          clear IV NX GR
          go_wp2
          go_loopw [16, 18] (fun rv qv w8 => ∃ (q r : Int), qv = .int .u64 q ∧ rv = .int .u64 r ∧ DI Y a1 n21 V q r ∧ r < 4294967296 ∧ q < 18446744073709551616 ∧ w8 = w) (fun _ qv _ => (intOf qv).toNat)
          case atStart => exact ⟨_, _, rfl, rfl, by first | exact HBS.out | (rw [eqb]; exact HBS.out), by omega, by omega, rfl⟩
          case round =>
            obtain ⟨q, r, rfl, rfl, iv, rbd, qbd, hw8⟩ := hrel
            have hw9 := hw8.symm
            subst hw9
            have q0 := iv.2.2.2
            have r0 := iv.2.2.1
            have IV := hid iv
            clear iv
            by_cases c1 : 4294967296 ≤ q
            · have d1 : decide (4294967296 ≤ q) = true := decide_eq_true c1
              have CC : Hid (4294967296 ≤ q ∨ 4294967296 * r + u0 < q * a0) := Or.inl c1
              have NX := hid (DI.next HY.out HY0.out HBU.out ⟨by omega, by omega⟩ HBL.out HB0.out a1p IV.out CC.out)
              have q1 : 1 ≤ q := by have := NX.out.2.2.2; omega
              clear CC
              by_cases b : 4294967296 ≤ r + a1
              · have d3 : decide (4294967296 ≤ r + a1) = true := decide_eq_true b
                have GR := hid (DI.great (u1 := u0) HY.out ⟨by omega, by omega⟩ a1p (by omega) HBL.out NX.out b)
                have qe : q - 1 = Q0 := (DI.done HY.out HY0.out HBU.out NX.out GR.out.2).trans HBQ.out
                clear IV NX GR
                go_wp2
                go_ret2
                exact ⟨⟨_, by rw [← RE.out]; rfl⟩, by first | trivial | rfl⟩
              · have d3 : decide (4294967296 ≤ r + a1) = false := decide_eq_false b
                go_wp2
                exact ⟨⟨_, _, rfl, rfl, NX.out, by omega, by omega, by first | trivial | rfl⟩, by simp [intOf] <;> omega⟩
            · have d1 : decide (4294967296 ≤ q) = false := decide_eq_false c1
              have pb := mul_bd (a := q) (b := a0) (m := 4294967295) (by omega) (by omega) (by omega) (by omega)
              obtain ⟨p, hp⟩ : ∃ p, q * a0 = p := ⟨_, rfl⟩
              have PE := hid hp
              rw [hp] at pb
              have p0 := pb.1
              have p1 : p ≤ 18446744065119617025 := Int.le_trans pb.2 (by decide)
              clear pb
              by_cases c2 : 4294967296 * r + u0 < p
              · have d2 : decide (4294967296 * r + u0 < p) = true := decide_eq_true c2
                have CC : Hid (4294967296 ≤ q ∨ 4294967296 * r + u0 < q * a0) := Or.inr (by rw [PE.out]; exact c2)
                have NX := hid (DI.next HY.out HY0.out HBU.out ⟨by omega, by omega⟩ HBL.out HB0.out a1p IV.out CC.out)
                have q1 : 1 ≤ q := by have := NX.out.2.2.2; omega
                clear CC
                by_cases b : 4294967296 ≤ r + a1
                · have d3 : decide (4294967296 ≤ r + a1) = true := decide_eq_true b
                  have GR := hid (DI.great (u1 := u0) HY.out ⟨by omega, by omega⟩ a1p (by omega) HBL.out NX.out b)
                  have qe : q - 1 = Q0 := (DI.done HY.out HY0.out HBU.out NX.out GR.out.2).trans HBQ.out
                  clear IV NX GR
                  go_wp2
                  go_ret2
                  exact ⟨⟨_, by rw [← RE.out]; rfl⟩, by first | trivial | rfl⟩
                · have d3 : decide (4294967296 ≤ r + a1) = false := decide_eq_false b
                  go_wp2
                  exact ⟨⟨_, _, rfl, rfl, NX.out, by omega, by omega, by first | trivial | rfl⟩, by simp [intOf] <;> omega⟩
              · have d2 : decide (4294967296 * r + u0 < p) = false := decide_eq_false c2
                have qe : q = Q0 := (DI.done HY.out HY0.out HBU.out IV.out (by rw [PE.out]; exact c2)).trans HBQ.out
                clear IV
                subst qe
                go_wp2
                go_ret2
                exact ⟨⟨_, by rw [← RE.out]; rfl⟩, by first | trivial | rfl⟩
        · have d3 : decide (4294967296 ≤ r + a1) = false := decide_eq_false b
          go_wp2
          exact ⟨⟨_, _, rfl, rfl, NX.out, by omega, by omega, by first | trivial | rfl⟩, by simp [intOf] <;> omega⟩
      · have d2 : decide (4294967296 * r + u1 < p) = false := decide_eq_false c2
        have qe : q = Q1 := (DI.done HY.out HY0.out HAU.out IV.out (by rw [PE.out]; exact c2)).trans HAQ.out
        clear IV
        subst qe
        go_wp2
        go_loopw [16, 18] (fun rv qv w8 => ∃ (q r : Int), qv = .int .u64 q ∧ rv = .int .u64 r ∧ DI Y a1 n21 V q r ∧ r < 4294967296 ∧ q < 18446744073709551616 ∧ w8 = w) (fun _ qv _ => (intOf qv).toNat)
        case atStart => exact ⟨_, _, rfl, rfl, by first | exact HBS.out | (rw [eqb]; exact HBS.out), by omega, by omega, rfl⟩
        case round =>
          obtain ⟨q, r, rfl, rfl, iv, rbd, qbd, hw8⟩ := hrel
          have hw9 := hw8.symm
          subst hw9
          have q0 := iv.2.2.2
          have r0 := iv.2.2.1
          have IV := hid iv
          clear iv
          by_cases c1 : 4294967296 ≤ q
          · have d1 : decide (4294967296 ≤ q) = true := decide_eq_true c1
            have CC : Hid (4294967296 ≤ q ∨ 4294967296 * r + u0 < q * a0) := Or.inl c1
            have NX := hid (DI.next HY.out HY0.out HBU.out ⟨by omega, by omega⟩ HBL.out HB0.out a1p IV.out CC.out)
            have q1 : 1 ≤ q := by have := NX.out.2.2.2; omega
            clear CC
            by_cases b : 4294967296 ≤ r + a1
            · have d3 : decide (4294967296 ≤ r + a1) = true := decide_eq_true b
              have GR := hid (DI.great (u1 := u0) HY.out ⟨by omega, by omega⟩ a1p (by omega) HBL.out NX.out b)
              have qe : q - 1 = Q0 := (DI.done HY.out HY0.out HBU.out NX.out GR.out.2).trans HBQ.out
              clear IV NX GR
              go_wp2
              go_ret2
              exact ⟨⟨_, by rw [← RE.out]; rfl⟩, by first | trivial | rfl⟩
            · have d3 : decide (4294967296 ≤ r + a1) = false := decide_eq_false b
              go_wp2
              exact ⟨⟨_, _, rfl, rfl, NX.out, by omega, by omega, by first | trivial | rfl⟩, by simp [intOf] <;> omega⟩
          · have d1 : decide (4294967296 ≤ q) = false := decide_eq_false c1
            have pb := mul_bd (a := q) (b := a0) (m := 4294967295) (by omega) (by omega) (by omega) (by omega)
            obtain ⟨p, hp⟩ : ∃ p, q * a0 = p := ⟨_, rfl⟩
            have PE := hid hp
            rw [hp] at pb
            have p0 := pb.1
            have p1 : p ≤ 18446744065119617025 := Int.le_trans pb.2 (by decide)
            clear pb
            by_cases c2 : 4294967296 * r + u0 < p
            · have d2 : decide (4294967296 * r + u0 < p) = true := decide_eq_true c2
              have CC : Hid (4294967296 ≤ q ∨ 4294967296 * r + u0 < q * a0) := Or.inr (by rw [PE.out]; exact c2)
              have NX := hid (DI.next HY.out HY0.out HBU.out ⟨by omega, by omega⟩ HBL.out HB0.out a1p IV.out CC.out)
              have q1 : 1 ≤ q := by have := NX.out.2.2.2; omega
              clear CC
              by_cases b : 4294967296 ≤ r + a1
              · have d3 : decide (4294967296 ≤ r + a1) = true := decide_eq_true b
                have GR := hid (DI.great (u1 := u0) HY.out ⟨by omega, by omega⟩ a1p (by omega) HBL.out NX.out b)
                have qe : q - 1 = Q0 := (DI.done HY.out HY0.out HBU.out NX.out GR.out.2).trans HBQ.out
                clear IV NX GR
                go_wp2
                go_ret2
                exact ⟨⟨_, by rw [← RE.out]; rfl⟩, by first | trivial | rfl⟩
              · have d3 : decide (4294967296 ≤ r + a1) = false := decide_eq_false b
                go_wp2
                exact ⟨⟨_, _, rfl, rfl, NX.out, by omega, by omega, by first | trivial | rfl⟩, by simp [intOf] <;> omega⟩
            · have d2 : decide (4294967296 * r + u0 < p) = false := decide_eq_false c2
              have qe : q = Q0 := (DI.done HY.out HY0.out HBU.out IV.out (by rw [PE.out]; exact c2)).trans HBQ.out
              clear IV
              subst qe
              go_wp2
              go_ret2
              exact ⟨⟨_, by rw [← RE.out]; rfl⟩, by first | trivial | rfl⟩
end Sh
end Go.Proofs.YtbibhgikmnpbfaaGreatDoor
