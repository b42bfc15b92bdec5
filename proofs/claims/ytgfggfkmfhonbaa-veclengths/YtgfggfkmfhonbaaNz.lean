/-
  The statement on lengths: the walk.
-/
import Derived.Test.YtgfggfkmfhonbaaNy
import Derived.Test.YtgfggfkmfhonbaaNi
namespace Go.Proofs.Ytgfggfkmfhonbaa
open Go.RowKit Tf
attribute [local go_sem] run_bits run_from raw_feq raw_fne raw_flt raw_fgt run_neg run_store_float
theorem class_q (x : Nat) : classB (qB x) = classB x := by
  cases h : isN x
  · rw [qB_of h]
  · rw [qB_N h]
    have := isN_true.1 h
    unfold classB
    rw [if_neg (show ¬ mg x = 0 by omega), if_neg (show ¬ mg x < 4503599627370496 by omega), if_neg (show ¬ mg x < 9218868437227405312 by omega), if_neg (show ¬ mg x = 9218868437227405312 by omega)]
    decide
set_option maxHeartbeats 1000000 in
theorem good_at (x : Nat) (w : World) (hx : x < 18446744073709551616) : Calls Try.prog 17 #[.float .f64 x] w fun e w' => e = .returned (.bool (gB x)) ∧ Below w.heap.size w w' := by
  obtain ⟨r, n, hr, hq⟩ := mul_any (P := Try.prog) w x _ x _ (IsQ.self hx) (IsQ.self hx)
  have hq2 : IsQ r (sqB x) := by unfold sqB mlB; rw [← mul_ql, ← mul_qr]; exact hq
  have hc : classB r = classB (sqB x) := by rw [← hq2.2, class_q]
  unfold gB
  obtain ⟨c, hc2⟩ : ∃ c, classB (sqB x) = c := ⟨_, rfl⟩
  obtain ⟨p, hp⟩ : ∃ p, feq x 0 = p := ⟨_, rfl⟩
  rw [hc2] at hc
  rw [hc2, hp]
  have CL : Hid (∀ w, Calls Try.prog 40 #[.float .f64 r] w fun e w' => e = .returned (.int .i64 c) ∧ w' = w) := fun w => by rw [← hc]; exact class_any r w hq2.1
  have A0 := hid (Ab.drewN (Ab.refl w) n)
  clear hq hq2 hc hc2 hx
  cases p
  all_goals
    go_enter Try.func17, Try.ntmps17
    go_wp2_with fail
    refine (CL.out _).mono ?_
    rintro e w1 ⟨rfl, rfl⟩
    go_wp2
    go_ret
    exact ⟨by simp, A0.out⟩
theorem run_sq0 {P : Program} {x : Nat} (h : sqB x = 0) : ∀ (w : World) (t : TypeId), (binOp .mul t (.float .f64 x) (.float .f64 x)).run P w = .ok (.float .f64 0) w := by
  intro w t
  have e : Ieee.double.mul x x = some 0 := by
    cases k : Ieee.double.mul x x with
    | none => unfold sqB at h; rw [mlB_none k] at h; exact absurd h (by decide)
    | some r => unfold sqB at h; rw [mlB_some k] at h; rw [h]
  exact run_float_arith w .mul t .f64 x x 0 e
set_option maxHeartbeats 1000000 in
theorem tiny_at (x y z : Nat) (w : World) (h1 : sqB x = 0) (h2 : sqB y = 0) (h3 : sqB z = 0) : Calls Try.prog 18 #[.agg #[.float .f64 x, .float .f64 y, .float .f64 z]] w fun e w' => e = .returned (.bool true) ∧ Below w.heap.size w w' := by
  have k1 := run_sq0 (P := Try.prog) h1
  have k2 := run_sq0 (P := Try.prog) h2
  have k3 := run_sq0 (P := Try.prog) h3
  have f0 := feq00
  have A0 := hid (bl1 w (.cells #[.float .f64 x, .float .f64 y, .float .f64 z] 24))
  clear h1 h2 h3
  go_enter Try.func18, Try.ntmps18
  go_wp2
  go_ret
  exact ⟨rfl, A0.out⟩
def Part (u x : Nat) : Prop := (fgt u 13830554455654793216 || feq u 13830554455654793216) = true ∧ (flt u 4607182418800017408 || feq u 4607182418800017408) = true ∧ ((flt u 0 || feq u 0) = true ∨ fgt x 0 = true) ∧ ((fgt u 0 || feq u 0) = true ∨ flt x 0 = true)
set_option maxHeartbeats 2000000 in
theorem part_at (u x : Nat) (w : World) (h : Part u x) : Calls Try.prog 20 #[.float .f64 u, .float .f64 x] w fun e w' => e = .returned (.bool true) ∧ Below w.heap.size w w' := by
  obtain ⟨h1, h2, h3, h4⟩ := h
  obtain ⟨a, ha⟩ : ∃ a, (flt u 0 || feq u 0) = a := ⟨_, rfl⟩
  obtain ⟨b, hb⟩ : ∃ b, (fgt u 0 || feq u 0) = b := ⟨_, rfl⟩
  rw [ha] at h3
  rw [hb] at h4
  cases a <;> cases b
  all_goals
    simp only [Bool.false_eq_true, false_or, true_or] at h3 h4
    go_enter Try.func20, Try.ntmps20
    go_wp2
    go_ret
    exact ⟨rfl, Below.refl _ _⟩
theorem ln_nn (x y z : Nat) : flt (lnB x y z) 0 = false := by
  have h1 : lnB x y z < 18446744073709551616 := rtB_lt _
  have h2 : ng (lnB x y z) = false := rtB_ng _
  rw [flt_rk _ 0 h1 (by decide), show rk 0 = 0 by decide]
  unfold rk
  rw [h2]
  simp
theorem max_b (a b : Nat) (w : World) (ha : a < 18446744073709551616) (hb : b < 18446744073709551616) : Calls Try.prog 19 #[.float .f64 a, .float .f64 b] w fun e w' => e = .returned (.float .f64 (maxB a b)) ∧ Below w.heap.size w w' :=
  (max_any a b w ha hb).mono fun _ _ ⟨he, hw⟩ => ⟨he, hw ▸ Below.refl _ _⟩
theorem maxB_lt {a b : Nat} (ha : a < 18446744073709551616) (hb : b < 18446744073709551616) : maxB a b < 18446744073709551616 := by
  unfold maxB
  split
  · decide
  · split <;> assumption
set_option maxHeartbeats 16000000 in
set_option maxRecDepth 100000 in
theorem vl_b1 (x y z : Nat) (w : World) (hx : x < 18446744073709551616) (hy : y < 18446744073709551616) (hz : z < 18446744073709551616) (g1 : gB x = false) :
    Calls Try.prog 4 #[.agg #[.float .f64 x, .float .f64 y, .float .f64 z]] w fun e w' => e = .returned (.bool true) ∧ Below w.heap.size w w' := by
  have LV := hid (fun w => lives7_at w)
  have LN := hid (fun x y z w (hx : Hid (x < 18446744073709551616)) (hy : Hid (y < 18446744073709551616)) (hz : Hid (z < 18446744073709551616)) => length_at x y z w hx hy hz)
  have UN := hid (fun x y z w (hx : Hid (x < 18446744073709551616)) (hy : Hid (y < 18446744073709551616)) (hz : Hid (z < 18446744073709551616)) => unit_at x y z w hx hy hz)
  have AT := hid (fun x y z w => at_at x y z w)
  have CN := hid (fun x w (hx : Hid (x < 18446744073709551616)) => canon_b x w hx)
  have GO := hid (fun x w (hx : Hid (x < 18446744073709551616)) => good_at x w hx)
  have MX := hid (fun a b w (ha : Hid (a < 18446744073709551616)) (hb : Hid (b < 18446744073709551616)) => max_b a b w ha hb)
  have PA := hid (fun u x w (h : Hid (Part u x)) => part_at u x w h)
  have SA := hid (fun a b w (h : a = b) => same_of a b w h)
  have AL := hid (fun x y z p q r w (h : x = p ∧ y = q ∧ z = r) => alike_of x y z p q r w h)
  have HL : Hid ((lnB x y z) < 18446744073709551616) := rtB_lt _
  have H0 : Hid (0 < 18446744073709551616) := hid (by decide)
  have E1 : Hid (canonB (lnB x y z) = (lnB x y z)) := lnB_canon x y z
  have N0 : flt (lnB x y z) 0 = false := ln_nn x y z
  have F0 := feq00
  have TI := hid (fun (h1 : feq (lnB x y z) (lnB x y z) = true) (h2 : fgt (lnB x y z) 0 = false) w => tiny_at x y z w (len_bad hx hy hz h1 h2).1 (len_bad hx hy hz h1 h2).2.1 (len_bad hx hy hz h1 h2).2.2)
  have Hx := hid hx
  have Hy := hid hy
  have Hz := hid hz
  have A0 := hid (bl1 w (.cells #[.float .f64 x, .float .f64 y, .float .f64 z] 24))
  have R0 := hid (heap_alloc_new w (.cells #[.float .f64 x, .float .f64 y, .float .f64 z] 24))
  clear hx hy hz
  go_enter Try.func4, Try.ntmps4
  go_wp2_with fail
  refine (LV.out _).mono ?_
  rintro e v1 ⟨rfl, b1⟩
  have AW1 : Hid (Ab w v1) := Ab.call A0.out b1
  have RA1 := hid (Ab.heap b1 R0.out)
  clear b1 A0 R0
  obtain ⟨-, xA0, xA1, xA2⟩ := rowfacts RA1.out
  go_wp2_with fail
  refine Calls.mono (LN.out _ _ _ _ (by assumption) (by assumption) (by assumption)) ?_
  rintro e v2 ⟨rfl, b2⟩
  clear xA0 xA1 xA2
  have AW2 : Hid (Ab w v2) := AW1.out.call b2
  have RA2 := hid (Ab.heap b2 RA1.out)
  clear b2 AW1 RA1
  obtain ⟨-, xA0, xA1, xA2⟩ := rowfacts RA2.out
  go_wp2_with fail
  refine Calls.mono (UN.out _ _ _ _ (by assumption) (by assumption) (by assumption)) ?_
  rintro e v3 ⟨rfl, b3⟩
  clear xA0 xA1 xA2
  have AW3 : Hid (Ab w v3) := AW2.out.call b3
  have RA3 := hid (Ab.heap b3 RA2.out)
  clear b3 AW2 RA2
  go_upto_region 5 with fail
  generalize hV : World.alloc v3 _ = v4
  obtain ⟨gu, hgn⟩ : ∃ g, v3.heap.size = g := ⟨_, rfl⟩
  have Rn : Hid (v4.heap[gu]? = some (.cells #[.float .f64 (unB (lnB x y z) x), .float .f64 (unB (lnB x y z) y), .float .f64 (unB (lnB x y z) z)] 24)) := by rw [← hV, ← hgn]; exact heap_alloc_new _ _
  have bn : Below v3.heap.size v3 v4 := by rw [← hV]; exact bl1 _ _
  rw [hgn]
  clear hV hgn
  have AW4 : Hid (Ab w v4) := AW3.out.call bn
  have RA4 := hid (Ab.heap bn RA3.out)
  clear bn AW3 RA3
  have RU4 := Rn
  clear Rn
  go_wp2_with fail
  refine Calls.mono (CN.out _ _ (by assumption)) ?_
  rintro e v5 ⟨rfl, b5⟩
  have AW5 : Hid (Ab w v5) := AW4.out.call b5
  have RA5 := hid (Ab.heap b5 RA4.out)
  have RU5 := hid (Ab.heap b5 RU4.out)
  clear b5 AW4 RA4 RU4
  go_wp2_with fail
  refine Calls.mono (SA.out _ _ _ (by first | (with_reducible exact E1.out))) ?_
  rintro e v6 ⟨rfl, b6⟩
  have AW6 : Hid (Ab w v6) := AW5.out.call b6
  have RA6 := hid (Ab.heap b6 RA5.out)
  have RU6 := hid (Ab.heap b6 RU5.out)
  clear b6 AW5 RA5 RU5
  obtain ⟨-, xA0, xA1, xA2⟩ := rowfacts RA6.out
  go_wp2_with fail
  refine Calls.mono (GO.out _ _ (by assumption)) ?_
  rintro e v7 ⟨rfl, b7⟩
  clear xA0 xA1 xA2
  have AW7 : Hid (Ab w v7) := AW6.out.call b7
  have RA7 := hid (Ab.heap b7 RA6.out)
  have RU7 := hid (Ab.heap b7 RU6.out)
  clear b7 AW6 RA6 RU6
  obtain ⟨n1, hn1⟩ : ∃ p, feq (lnB x y z) (lnB x y z) = p := ⟨_, rfl⟩
  obtain ⟨n2, hn2⟩ : ∃ p, fgt (lnB x y z) 0 = p := ⟨_, rfl⟩
  cases n1 with
  | false =>
    go_wp2
    go_ret
    exact ⟨rfl, AW7.out⟩
  | true =>
    cases n2 with
    | true =>
      go_wp2
      go_ret
      exact ⟨rfl, AW7.out⟩
    | false =>
      have TT := hid (TI.out hn1 hn2)
      obtain ⟨-, xA0, xA1, xA2⟩ := rowfacts RA7.out
      go_wp2_with fail
      refine (TT.out _).mono ?_
      rintro e vz ⟨rfl, bz⟩
      have AZ : Hid (Ab w vz) := AW7.out.call bz
      clear bz
      go_wp2
      go_ret
      exact ⟨rfl, AZ.out⟩
set_option maxHeartbeats 16000000 in
set_option maxRecDepth 100000 in
theorem vl_b2 (x y z : Nat) (w : World) (hx : x < 18446744073709551616) (hy : y < 18446744073709551616) (hz : z < 18446744073709551616) (g1 : gB x = true) (g2 : gB y = false) :
    Calls Try.prog 4 #[.agg #[.float .f64 x, .float .f64 y, .float .f64 z]] w fun e w' => e = .returned (.bool true) ∧ Below w.heap.size w w' := by
  have LV := hid (fun w => lives7_at w)
  have LN := hid (fun x y z w (hx : Hid (x < 18446744073709551616)) (hy : Hid (y < 18446744073709551616)) (hz : Hid (z < 18446744073709551616)) => length_at x y z w hx hy hz)
  have UN := hid (fun x y z w (hx : Hid (x < 18446744073709551616)) (hy : Hid (y < 18446744073709551616)) (hz : Hid (z < 18446744073709551616)) => unit_at x y z w hx hy hz)
  have AT := hid (fun x y z w => at_at x y z w)
  have CN := hid (fun x w (hx : Hid (x < 18446744073709551616)) => canon_b x w hx)
  have GO := hid (fun x w (hx : Hid (x < 18446744073709551616)) => good_at x w hx)
  have MX := hid (fun a b w (ha : Hid (a < 18446744073709551616)) (hb : Hid (b < 18446744073709551616)) => max_b a b w ha hb)
  have PA := hid (fun u x w (h : Hid (Part u x)) => part_at u x w h)
  have SA := hid (fun a b w (h : a = b) => same_of a b w h)
  have AL := hid (fun x y z p q r w (h : x = p ∧ y = q ∧ z = r) => alike_of x y z p q r w h)
  have HL : Hid ((lnB x y z) < 18446744073709551616) := rtB_lt _
  have H0 : Hid (0 < 18446744073709551616) := hid (by decide)
  have E1 : Hid (canonB (lnB x y z) = (lnB x y z)) := lnB_canon x y z
  have N0 : flt (lnB x y z) 0 = false := ln_nn x y z
  have F0 := feq00
  have TI := hid (fun (h1 : feq (lnB x y z) (lnB x y z) = true) (h2 : fgt (lnB x y z) 0 = false) w => tiny_at x y z w (len_bad hx hy hz h1 h2).1 (len_bad hx hy hz h1 h2).2.1 (len_bad hx hy hz h1 h2).2.2)
  have Hx := hid hx
  have Hy := hid hy
  have Hz := hid hz
  have A0 := hid (bl1 w (.cells #[.float .f64 x, .float .f64 y, .float .f64 z] 24))
  have R0 := hid (heap_alloc_new w (.cells #[.float .f64 x, .float .f64 y, .float .f64 z] 24))
  clear hx hy hz
  go_enter Try.func4, Try.ntmps4
  go_wp2_with fail
  refine (LV.out _).mono ?_
  rintro e v1 ⟨rfl, b1⟩
  have AW1 : Hid (Ab w v1) := Ab.call A0.out b1
  have RA1 := hid (Ab.heap b1 R0.out)
  clear b1 A0 R0
  obtain ⟨-, xA0, xA1, xA2⟩ := rowfacts RA1.out
  go_wp2_with fail
  refine Calls.mono (LN.out _ _ _ _ (by assumption) (by assumption) (by assumption)) ?_
  rintro e v2 ⟨rfl, b2⟩
  clear xA0 xA1 xA2
  have AW2 : Hid (Ab w v2) := AW1.out.call b2
  have RA2 := hid (Ab.heap b2 RA1.out)
  clear b2 AW1 RA1
  obtain ⟨-, xA0, xA1, xA2⟩ := rowfacts RA2.out
  go_wp2_with fail
  refine Calls.mono (UN.out _ _ _ _ (by assumption) (by assumption) (by assumption)) ?_
  rintro e v3 ⟨rfl, b3⟩
  clear xA0 xA1 xA2
  have AW3 : Hid (Ab w v3) := AW2.out.call b3
  have RA3 := hid (Ab.heap b3 RA2.out)
  clear b3 AW2 RA2
  go_upto_region 5 with fail
  generalize hV : World.alloc v3 _ = v4
  obtain ⟨gu, hgn⟩ : ∃ g, v3.heap.size = g := ⟨_, rfl⟩
  have Rn : Hid (v4.heap[gu]? = some (.cells #[.float .f64 (unB (lnB x y z) x), .float .f64 (unB (lnB x y z) y), .float .f64 (unB (lnB x y z) z)] 24)) := by rw [← hV, ← hgn]; exact heap_alloc_new _ _
  have bn : Below v3.heap.size v3 v4 := by rw [← hV]; exact bl1 _ _
  rw [hgn]
  clear hV hgn
  have AW4 : Hid (Ab w v4) := AW3.out.call bn
  have RA4 := hid (Ab.heap bn RA3.out)
  clear bn AW3 RA3
  have RU4 := Rn
  clear Rn
  go_wp2_with fail
  refine Calls.mono (CN.out _ _ (by assumption)) ?_
  rintro e v5 ⟨rfl, b5⟩
  have AW5 : Hid (Ab w v5) := AW4.out.call b5
  have RA5 := hid (Ab.heap b5 RA4.out)
  have RU5 := hid (Ab.heap b5 RU4.out)
  clear b5 AW4 RA4 RU4
  go_wp2_with fail
  refine Calls.mono (SA.out _ _ _ (by first | (with_reducible exact E1.out))) ?_
  rintro e v6 ⟨rfl, b6⟩
  have AW6 : Hid (Ab w v6) := AW5.out.call b6
  have RA6 := hid (Ab.heap b6 RA5.out)
  have RU6 := hid (Ab.heap b6 RU5.out)
  clear b6 AW5 RA5 RU5
  obtain ⟨-, xA0, xA1, xA2⟩ := rowfacts RA6.out
  go_wp2_with fail
  refine Calls.mono (GO.out _ _ (by assumption)) ?_
  rintro e v7 ⟨rfl, b7⟩
  clear xA0 xA1 xA2
  have AW7 : Hid (Ab w v7) := AW6.out.call b7
  have RA7 := hid (Ab.heap b7 RA6.out)
  have RU7 := hid (Ab.heap b7 RU6.out)
  clear b7 AW6 RA6 RU6
  obtain ⟨-, xA0, xA1, xA2⟩ := rowfacts RA7.out
  go_wp2_with fail
  refine Calls.mono (GO.out _ _ (by assumption)) ?_
  rintro e v8 ⟨rfl, b8⟩
  clear xA0 xA1 xA2
  have AW8 : Hid (Ab w v8) := AW7.out.call b8
  have RA8 := hid (Ab.heap b8 RA7.out)
  have RU8 := hid (Ab.heap b8 RU7.out)
  clear b8 AW7 RA7 RU7
  obtain ⟨n1, hn1⟩ : ∃ p, feq (lnB x y z) (lnB x y z) = p := ⟨_, rfl⟩
  obtain ⟨n2, hn2⟩ : ∃ p, fgt (lnB x y z) 0 = p := ⟨_, rfl⟩
  cases n1 with
  | false =>
    go_wp2
    go_ret
    exact ⟨rfl, AW8.out⟩
  | true =>
    cases n2 with
    | true =>
      go_wp2
      go_ret
      exact ⟨rfl, AW8.out⟩
    | false =>
      have TT := hid (TI.out hn1 hn2)
      obtain ⟨-, xA0, xA1, xA2⟩ := rowfacts RA8.out
      go_wp2_with fail
      refine (TT.out _).mono ?_
      rintro e vz ⟨rfl, bz⟩
      have AZ : Hid (Ab w vz) := AW8.out.call bz
      clear bz
      go_wp2
      go_ret
      exact ⟨rfl, AZ.out⟩
set_option maxHeartbeats 16000000 in
set_option maxRecDepth 100000 in
theorem vl_b3 (x y z : Nat) (w : World) (hx : x < 18446744073709551616) (hy : y < 18446744073709551616) (hz : z < 18446744073709551616) (g1 : gB x = true) (g2 : gB y = true) (g3 : gB z = false) :
    Calls Try.prog 4 #[.agg #[.float .f64 x, .float .f64 y, .float .f64 z]] w fun e w' => e = .returned (.bool true) ∧ Below w.heap.size w w' := by
  have LV := hid (fun w => lives7_at w)
  have LN := hid (fun x y z w (hx : Hid (x < 18446744073709551616)) (hy : Hid (y < 18446744073709551616)) (hz : Hid (z < 18446744073709551616)) => length_at x y z w hx hy hz)
  have UN := hid (fun x y z w (hx : Hid (x < 18446744073709551616)) (hy : Hid (y < 18446744073709551616)) (hz : Hid (z < 18446744073709551616)) => unit_at x y z w hx hy hz)
  have AT := hid (fun x y z w => at_at x y z w)
  have CN := hid (fun x w (hx : Hid (x < 18446744073709551616)) => canon_b x w hx)
  have GO := hid (fun x w (hx : Hid (x < 18446744073709551616)) => good_at x w hx)
  have MX := hid (fun a b w (ha : Hid (a < 18446744073709551616)) (hb : Hid (b < 18446744073709551616)) => max_b a b w ha hb)
  have PA := hid (fun u x w (h : Hid (Part u x)) => part_at u x w h)
  have SA := hid (fun a b w (h : a = b) => same_of a b w h)
  have AL := hid (fun x y z p q r w (h : x = p ∧ y = q ∧ z = r) => alike_of x y z p q r w h)
  have HL : Hid ((lnB x y z) < 18446744073709551616) := rtB_lt _
  have H0 : Hid (0 < 18446744073709551616) := hid (by decide)
  have E1 : Hid (canonB (lnB x y z) = (lnB x y z)) := lnB_canon x y z
  have N0 : flt (lnB x y z) 0 = false := ln_nn x y z
  have F0 := feq00
  have TI := hid (fun (h1 : feq (lnB x y z) (lnB x y z) = true) (h2 : fgt (lnB x y z) 0 = false) w => tiny_at x y z w (len_bad hx hy hz h1 h2).1 (len_bad hx hy hz h1 h2).2.1 (len_bad hx hy hz h1 h2).2.2)
  have Hx := hid hx
  have Hy := hid hy
  have Hz := hid hz
  have A0 := hid (bl1 w (.cells #[.float .f64 x, .float .f64 y, .float .f64 z] 24))
  have R0 := hid (heap_alloc_new w (.cells #[.float .f64 x, .float .f64 y, .float .f64 z] 24))
  clear hx hy hz
  go_enter Try.func4, Try.ntmps4
  go_wp2_with fail
  refine (LV.out _).mono ?_
  rintro e v1 ⟨rfl, b1⟩
  have AW1 : Hid (Ab w v1) := Ab.call A0.out b1
  have RA1 := hid (Ab.heap b1 R0.out)
  clear b1 A0 R0
  obtain ⟨-, xA0, xA1, xA2⟩ := rowfacts RA1.out
  go_wp2_with fail
  refine Calls.mono (LN.out _ _ _ _ (by assumption) (by assumption) (by assumption)) ?_
  rintro e v2 ⟨rfl, b2⟩
  clear xA0 xA1 xA2
  have AW2 : Hid (Ab w v2) := AW1.out.call b2
  have RA2 := hid (Ab.heap b2 RA1.out)
  clear b2 AW1 RA1
  obtain ⟨-, xA0, xA1, xA2⟩ := rowfacts RA2.out
  go_wp2_with fail
  refine Calls.mono (UN.out _ _ _ _ (by assumption) (by assumption) (by assumption)) ?_
  rintro e v3 ⟨rfl, b3⟩
  clear xA0 xA1 xA2
  have AW3 : Hid (Ab w v3) := AW2.out.call b3
  have RA3 := hid (Ab.heap b3 RA2.out)
  clear b3 AW2 RA2
  go_upto_region 5 with fail
  generalize hV : World.alloc v3 _ = v4
  obtain ⟨gu, hgn⟩ : ∃ g, v3.heap.size = g := ⟨_, rfl⟩
  have Rn : Hid (v4.heap[gu]? = some (.cells #[.float .f64 (unB (lnB x y z) x), .float .f64 (unB (lnB x y z) y), .float .f64 (unB (lnB x y z) z)] 24)) := by rw [← hV, ← hgn]; exact heap_alloc_new _ _
  have bn : Below v3.heap.size v3 v4 := by rw [← hV]; exact bl1 _ _
  rw [hgn]
  clear hV hgn
  have AW4 : Hid (Ab w v4) := AW3.out.call bn
  have RA4 := hid (Ab.heap bn RA3.out)
  clear bn AW3 RA3
  have RU4 := Rn
  clear Rn
  go_wp2_with fail
  refine Calls.mono (CN.out _ _ (by assumption)) ?_
  rintro e v5 ⟨rfl, b5⟩
  have AW5 : Hid (Ab w v5) := AW4.out.call b5
  have RA5 := hid (Ab.heap b5 RA4.out)
  have RU5 := hid (Ab.heap b5 RU4.out)
  clear b5 AW4 RA4 RU4
  go_wp2_with fail
  refine Calls.mono (SA.out _ _ _ (by first | (with_reducible exact E1.out))) ?_
  rintro e v6 ⟨rfl, b6⟩
  have AW6 : Hid (Ab w v6) := AW5.out.call b6
  have RA6 := hid (Ab.heap b6 RA5.out)
  have RU6 := hid (Ab.heap b6 RU5.out)
  clear b6 AW5 RA5 RU5
  obtain ⟨-, xA0, xA1, xA2⟩ := rowfacts RA6.out
  go_wp2_with fail
  refine Calls.mono (GO.out _ _ (by assumption)) ?_
  rintro e v7 ⟨rfl, b7⟩
  clear xA0 xA1 xA2
  have AW7 : Hid (Ab w v7) := AW6.out.call b7
  have RA7 := hid (Ab.heap b7 RA6.out)
  have RU7 := hid (Ab.heap b7 RU6.out)
  clear b7 AW6 RA6 RU6
  obtain ⟨-, xA0, xA1, xA2⟩ := rowfacts RA7.out
  go_wp2_with fail
  refine Calls.mono (GO.out _ _ (by assumption)) ?_
  rintro e v8 ⟨rfl, b8⟩
  clear xA0 xA1 xA2
  have AW8 : Hid (Ab w v8) := AW7.out.call b8
  have RA8 := hid (Ab.heap b8 RA7.out)
  have RU8 := hid (Ab.heap b8 RU7.out)
  clear b8 AW7 RA7 RU7
  obtain ⟨-, xA0, xA1, xA2⟩ := rowfacts RA8.out
  go_wp2_with fail
  refine Calls.mono (GO.out _ _ (by assumption)) ?_
  rintro e v9 ⟨rfl, b9⟩
  clear xA0 xA1 xA2
  have AW9 : Hid (Ab w v9) := AW8.out.call b9
  have RA9 := hid (Ab.heap b9 RA8.out)
  have RU9 := hid (Ab.heap b9 RU8.out)
  clear b9 AW8 RA8 RU8
  obtain ⟨n1, hn1⟩ : ∃ p, feq (lnB x y z) (lnB x y z) = p := ⟨_, rfl⟩
  obtain ⟨n2, hn2⟩ : ∃ p, fgt (lnB x y z) 0 = p := ⟨_, rfl⟩
  cases n1 with
  | false =>
    go_wp2
    go_ret
    exact ⟨rfl, AW9.out⟩
  | true =>
    cases n2 with
    | true =>
      go_wp2
      go_ret
      exact ⟨rfl, AW9.out⟩
    | false =>
      have TT := hid (TI.out hn1 hn2)
      obtain ⟨-, xA0, xA1, xA2⟩ := rowfacts RA9.out
      go_wp2_with fail
      refine (TT.out _).mono ?_
      rintro e vz ⟨rfl, bz⟩
      have AZ : Hid (Ab w vz) := AW9.out.call bz
      clear bz
      go_wp2
      go_ret
      exact ⟨rfl, AZ.out⟩
end Go.Proofs.Ytgfggfkmfhonbaa
