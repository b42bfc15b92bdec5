/-
  The statement on lengths, of good parts: the walk.
-/
import Derived.Test.YtgfggfkmfhonbaaNz
namespace Go.Proofs.Ytgfggfkmfhonbaa
open Go.RowKit Tf
attribute [local go_sem] run_bits run_from raw_feq raw_fne raw_flt raw_fgt run_neg run_store_float
set_option maxHeartbeats 16000000 in
set_option maxRecDepth 100000 in
theorem vl_zero (x y z : Nat) (w : World) (hx : x < 18446744073709551616) (hy : y < 18446744073709551616) (hz : z < 18446744073709551616) (g1 : gB x = true) (g2 : gB y = true) (g3 : gB z = true) (l0 : (lnB x y z) = 0) :
    Calls Try.prog 4 #[.agg #[.float .f64 x, .float .f64 y, .float .f64 z]] w fun e w' => e = .returned (.bool true) ∧ Below w.heap.size w w' := by
  have LV := hid (fun w => lives7_at w)
  have LN := hid (fun x y z w (hx : Hid (x < 18446744073709551616)) (hy : Hid (y < 18446744073709551616)) (hz : Hid (z < 18446744073709551616)) => length_at x y z w hx hy hz)
  have UN := hid (fun x y z w (hx : Hid (x < 18446744073709551616)) (hy : Hid (y < 18446744073709551616)) (hz : Hid (z < 18446744073709551616)) => unit_at x y z w hx hy hz)
  have AT := hid (fun x y z w => at_at x y z w)
  have CN := hid (fun x w (hx : Hid (x < 18446744073709551616)) => canon_b x w hx)
  have GO := hid (fun x w (hx : Hid (x < 18446744073709551616)) => good_at x w hx)
  have MX := hid (fun a b w (ha : Hid (a < 18446744073709551616)) (hb : Hid (b < 18446744073709551616)) => max_b a b w ha hb)
  have PA := hid (fun u x w (h : Hid (Part u x)) => part_at u x w h)
  have SA := hid (fun a b w (h : a = b) => same_of a b w h)
  have AL := hid (fun x y z p q r w (h : x = p ∧ y = q ∧ z = r) => alike_of x y z p q r w h)
  have HL : Hid ((lnB x y z) < 18446744073709551616) := rtB_lt _
  have H0 : Hid (0 < 18446744073709551616) := hid (by decide)
  have E1 : Hid (canonB (lnB x y z) = (lnB x y z)) := lnB_canon x y z
  have N0 : flt (lnB x y z) 0 = false := ln_nn x y z
  have GX := gB_Gd hx g1
  have GY := gB_Gd hy g2
  have GZ := gB_Gd hz g3
  have mxf := mx_facts hx hy hz GX GY GZ
  have q1 : flt (lnB x y z) (maxB (maxB (maxB x (negB x)) (maxB y (negB y))) (maxB z (negB z))) = false := mxf.1
  have q2 : feq (lnB x y z) 0 = true := by rw [l0]; exact feq00
  have q3 : feq (maxB (maxB (maxB x (negB x)) (maxB y (negB y))) (maxB z (negB z))) 0 = true := mxf.2.trans q2
  have nx := negFloat_eq x hx
  have ny := negFloat_eq y hy
  have nz := negFloat_eq z hz
  have f0 := feq00
  have Hnx : Hid (negB x < 18446744073709551616) := negB_lt' hx
  have Hny : Hid (negB y < 18446744073709551616) := negB_lt' hy
  have Hnz : Hid (negB z < 18446744073709551616) := negB_lt' hz
  have Hax : Hid ((maxB x (negB x)) < 18446744073709551616) := maxB_lt hx (negB_lt' hx)
  have Hay : Hid ((maxB y (negB y)) < 18446744073709551616) := maxB_lt hy (negB_lt' hy)
  have Haz : Hid ((maxB z (negB z)) < 18446744073709551616) := maxB_lt hz (negB_lt' hz)
  have Hxy : Hid ((maxB (maxB x (negB x)) (maxB y (negB y))) < 18446744073709551616) := maxB_lt Hax.out Hay.out
  have E2 : Hid (lnB x 0 0 = (maxB x (negB x))) := by rw [max_abs hx GX.1]; exact len_one hx GX
  have E3 : Hid (unB (lnB x y z) x = 0 ∧ unB (lnB x y z) y = 0 ∧ unB (lnB x y z) z = 0) := ⟨unit_none (.inl l0) x, unit_none (.inl l0) y, unit_none (.inl l0) z⟩
  clear l0
  clear mxf GX GY GZ
  obtain ⟨bx, hbx⟩ : ∃ p, feq x 0 = p := ⟨_, rfl⟩
  have Hx := hid hx
  have Hy := hid hy
  have Hz := hid hz
  have A0 := hid (bl1 w (.cells #[.float .f64 x, .float .f64 y, .float .f64 z] 24))
  have R0 := hid (heap_alloc_new w (.cells #[.float .f64 x, .float .f64 y, .float .f64 z] 24))
  clear hx hy hz
  go_enter Try.func4, Try.ntmps4
  go_wp2_with fail
  refine (LV.out _).mono ?_
  rintro e v1 ⟨rfl, b1⟩
  have AW1 : Hid (Ab w v1) := Ab.call A0.out b1
  have RA1 := hid (Ab.heap b1 R0.out)
  clear b1 A0 R0
  obtain ⟨-, xA0, xA1, xA2⟩ := rowfacts RA1.out
  go_wp2_with fail
  refine Calls.mono (LN.out _ _ _ _ (by assumption) (by assumption) (by assumption)) ?_
  rintro e v2 ⟨rfl, b2⟩
  clear xA0 xA1 xA2
  have AW2 : Hid (Ab w v2) := AW1.out.call b2
  have RA2 := hid (Ab.heap b2 RA1.out)
  clear b2 AW1 RA1
  obtain ⟨-, xA0, xA1, xA2⟩ := rowfacts RA2.out
  go_wp2_with fail
  refine Calls.mono (UN.out _ _ _ _ (by assumption) (by assumption) (by assumption)) ?_
  rintro e v3 ⟨rfl, b3⟩
  clear xA0 xA1 xA2
  have AW3 : Hid (Ab w v3) := AW2.out.call b3
  have RA3 := hid (Ab.heap b3 RA2.out)
  clear b3 AW2 RA2
  go_upto_region 5 with fail
  generalize hV : World.alloc v3 _ = v4
  obtain ⟨gu, hgn⟩ : ∃ g, v3.heap.size = g := ⟨_, rfl⟩
  have Rn : Hid (v4.heap[gu]? = some (.cells #[.float .f64 (unB (lnB x y z) x), .float .f64 (unB (lnB x y z) y), .float .f64 (unB (lnB x y z) z)] 24)) := by rw [← hV, ← hgn]; exact heap_alloc_new _ _
  have bn : Below v3.heap.size v3 v4 := by rw [← hV]; exact bl1 _ _
  rw [hgn]
  clear hV hgn
  have AW4 : Hid (Ab w v4) := AW3.out.call bn
  have RA4 := hid (Ab.heap bn RA3.out)
  clear bn AW3 RA3
  have RU4 := Rn
  clear Rn
  go_wp2_with fail
  refine Calls.mono (CN.out _ _ (by assumption)) ?_
  rintro e v5 ⟨rfl, b5⟩
  have AW5 : Hid (Ab w v5) := AW4.out.call b5
  have RA5 := hid (Ab.heap b5 RA4.out)
  have RU5 := hid (Ab.heap b5 RU4.out)
  clear b5 AW4 RA4 RU4
  go_wp2_with fail
  refine Calls.mono (SA.out _ _ _ (by first | (with_reducible exact E1.out))) ?_
  rintro e v6 ⟨rfl, b6⟩
  have AW6 : Hid (Ab w v6) := AW5.out.call b6
  have RA6 := hid (Ab.heap b6 RA5.out)
  have RU6 := hid (Ab.heap b6 RU5.out)
  clear b6 AW5 RA5 RU5
  obtain ⟨-, xA0, xA1, xA2⟩ := rowfacts RA6.out
  go_wp2_with fail
  refine Calls.mono (GO.out _ _ (by assumption)) ?_
  rintro e v7 ⟨rfl, b7⟩
  clear xA0 xA1 xA2
  have AW7 : Hid (Ab w v7) := AW6.out.call b7
  have RA7 := hid (Ab.heap b7 RA6.out)
  have RU7 := hid (Ab.heap b7 RU6.out)
  clear b7 AW6 RA6 RU6
  obtain ⟨-, xA0, xA1, xA2⟩ := rowfacts RA7.out
  go_wp2_with fail
  refine Calls.mono (GO.out _ _ (by assumption)) ?_
  rintro e v8 ⟨rfl, b8⟩
  clear xA0 xA1 xA2
  have AW8 : Hid (Ab w v8) := AW7.out.call b8
  have RA8 := hid (Ab.heap b8 RA7.out)
  have RU8 := hid (Ab.heap b8 RU7.out)
  clear b8 AW7 RA7 RU7
  obtain ⟨-, xA0, xA1, xA2⟩ := rowfacts RA8.out
  go_wp2_with fail
  refine Calls.mono (GO.out _ _ (by assumption)) ?_
  rintro e v9 ⟨rfl, b9⟩
  clear xA0 xA1 xA2
  have AW9 : Hid (Ab w v9) := AW8.out.call b9
  have RA9 := hid (Ab.heap b9 RA8.out)
  have RU9 := hid (Ab.heap b9 RU8.out)
  clear b9 AW8 RA8 RU8
  go_upto_region 9 with fail
  obtain ⟨U, F, hF1, hF2⟩ := cls v9
  have HF := hid hF2
  have HF1 := hid hF1
  have xA0 : ∀ vv, (F vv).cell? ⟨w.heap.size, 0, none⟩ = some (.float .f64 x) := fun vv => cell_of_row _ _ 0 _ _ _ ((hF1 vv).heap RA9.out)
  have xA1 : ∀ vv, (F vv).cell? ⟨w.heap.size, 1, none⟩ = some (.float .f64 y) := fun vv => cell_of_row _ _ 1 _ _ _ ((hF1 vv).heap RA9.out)
  have xA2 : ∀ vv, (F vv).cell? ⟨w.heap.size, 2, none⟩ = some (.float .f64 z) := fun vv => cell_of_row _ _ 2 _ _ _ ((hF1 vv).heap RA9.out)
  have D := HF.out _ (Ab.refl v9).drew
  clear hF1 hF2
  refine region_cls F (by kernel_rfl) (by kernel_rfl) D ?_
  repeat (go_big_quiet_step (first
    | (with_reducible rfl)
    | (go_at_call 19; exact calls_cls HF HF1 (MX.out _ _ _ (by assumption) (by assumption)))))
  refine wpQuiet_nil ?_
  intro wz hwz
  obtain ⟨vv, hv⟩ := hwz
  have bz : Below v9.heap.size v9 wz := by rw [hv]; exact HF1.out vv
  clear hv vv
  clear HF HF1 D xA0 xA1 xA2
  clear F U
  obtain ⟨v10, rfl⟩ : ∃ x, x = wz := ⟨_, rfl⟩
  have AW10 : Hid (Ab w v10) := AW9.out.call bz
  have RA10 := hid (Ab.heap bz RA9.out)
  have RU10 := hid (Ab.heap bz RU9.out)
  clear bz AW9 RA9 RU9
  obtain ⟨-, xA0, xA1, xA2⟩ := rowfacts RA10.out
  go_wp2_with fail
  refine Calls.mono (AT.out _ _ _ _) ?_
  rintro e v11 ⟨rfl, b11⟩
  clear xA0 xA1 xA2
  have AW11 : Hid (Ab w v11) := AW10.out.call b11
  have RA11 := hid (Ab.heap b11 RA10.out)
  have RU11 := hid (Ab.heap b11 RU10.out)
  clear b11 AW10 RA10 RU10
  go_upto_region 13 with fail
  generalize hV : World.alloc v11 _ = v12
  obtain ⟨gx, hgn⟩ : ∃ g, v11.heap.size = g := ⟨_, rfl⟩
  have Rn : Hid (v12.heap[gx]? = some (.cells #[.float .f64 x, .float .f64 0, .float .f64 0] 24)) := by rw [← hV, ← hgn]; exact heap_alloc_new _ _
  have bn : Below v11.heap.size v11 v12 := by rw [← hV]; exact bl1 _ _
  rw [hgn]
  clear hV hgn
  have AW12 : Hid (Ab w v12) := AW11.out.call bn
  have RA12 := hid (Ab.heap bn RA11.out)
  have RU12 := hid (Ab.heap bn RU11.out)
  clear bn AW11 RA11 RU11
  have RX12 := Rn
  clear Rn
  cases bx
  all_goals
    obtain ⟨U, F, hF1, hF2⟩ := cls v12
    have HF := hid hF2
    have HF1 := hid hF1
    have xA0 : ∀ vv, (F vv).cell? ⟨w.heap.size, 0, none⟩ = some (.float .f64 x) := fun vv => cell_of_row _ _ 0 _ _ _ ((hF1 vv).heap RA12.out)
    have xA1 : ∀ vv, (F vv).cell? ⟨w.heap.size, 1, none⟩ = some (.float .f64 y) := fun vv => cell_of_row _ _ 1 _ _ _ ((hF1 vv).heap RA12.out)
    have xA2 : ∀ vv, (F vv).cell? ⟨w.heap.size, 2, none⟩ = some (.float .f64 z) := fun vv => cell_of_row _ _ 2 _ _ _ ((hF1 vv).heap RA12.out)
    have xX0 : ∀ vv, (F vv).cell? ⟨gx, 0, none⟩ = some (.float .f64 x) := fun vv => cell_of_row _ _ 0 _ _ _ ((hF1 vv).heap RX12.out)
    have xX1 : ∀ vv, (F vv).cell? ⟨gx, 1, none⟩ = some (.float .f64 0) := fun vv => cell_of_row _ _ 1 _ _ _ ((hF1 vv).heap RX12.out)
    have xX2 : ∀ vv, (F vv).cell? ⟨gx, 2, none⟩ = some (.float .f64 0) := fun vv => cell_of_row _ _ 2 _ _ _ ((hF1 vv).heap RX12.out)
    have D := HF.out _ (Ab.refl v12).drew
    clear hF1 hF2
    refine region_cls F (by kernel_rfl) (by kernel_rfl) D ?_
    repeat (go_big_quiet_step (first
      | (with_reducible rfl)
      | (go_at_call 15; exact calls_cls HF HF1 (LN.out _ _ _ _ (by assumption) (by assumption) (by assumption)))
      | (go_at_call 19; exact calls_cls HF HF1 (MX.out _ _ _ (by assumption) (by assumption)))
      | (go_at_call 14; exact calls_cls HF HF1 (SA.out _ _ _ (by first | (with_reducible exact E2.out))))))
    refine wpQuiet_nil ?_
    intro wz hwz
    obtain ⟨vv, hv⟩ := hwz
    have bz : Below v12.heap.size v12 wz := by rw [hv]; exact HF1.out vv
    clear hv vv
    clear HF HF1 D xA0 xA1 xA2 xX0 xX1 xX2
    clear F U
    obtain ⟨v13, rfl⟩ : ∃ x, x = wz := ⟨_, rfl⟩
    have AW13 : Hid (Ab w v13) := AW12.out.call bz
    have RA13 := hid (Ab.heap bz RA12.out)
    have RU13 := hid (Ab.heap bz RU12.out)
    have RX13 := hid (Ab.heap bz RX12.out)
    clear bz AW12 RA12 RU12 RX12
    go_upto_region 16 with fail
    obtain ⟨U, F, hF1, hF2⟩ := cls v13
    have HF := hid hF2
    have HF1 := hid hF1
    have xU0 : ∀ vv, (F vv).cell? ⟨gu, 0, none⟩ = some (.float .f64 (unB (lnB x y z) x)) := fun vv => cell_of_row _ _ 0 _ _ _ ((hF1 vv).heap RU13.out)
    have xU1 : ∀ vv, (F vv).cell? ⟨gu, 1, none⟩ = some (.float .f64 (unB (lnB x y z) y)) := fun vv => cell_of_row _ _ 1 _ _ _ ((hF1 vv).heap RU13.out)
    have xU2 : ∀ vv, (F vv).cell? ⟨gu, 2, none⟩ = some (.float .f64 (unB (lnB x y z) z)) := fun vv => cell_of_row _ _ 2 _ _ _ ((hF1 vv).heap RU13.out)
    have D := HF.out _ (Ab.refl v13).drew
    clear hF1 hF2
    refine region_cls F (by kernel_rfl) (by kernel_rfl) D ?_
    repeat (go_big_quiet_step (first
      | (with_reducible rfl)
      | (go_at_call 9; exact calls_cls HF HF1 (AT.out _ _ _ _))
      | (go_at_call 11; exact calls_cls HF HF1 (AL.out _ _ _ _ _ _ _ (by first | (with_reducible exact E3.out))))))
    refine wpQuiet_nil ?_
    intro wz hwz
    obtain ⟨vv, hv⟩ := hwz
    have bz : Below v13.heap.size v13 wz := by rw [hv]; exact HF1.out vv
    clear hv vv
    clear HF HF1 D xU0 xU1 xU2
    clear F U
    obtain ⟨v14, rfl⟩ : ∃ x, x = wz := ⟨_, rfl⟩
    have AW14 : Hid (Ab w v14) := AW13.out.call bz
    have RA14 := hid (Ab.heap bz RA13.out)
    have RU14 := hid (Ab.heap bz RU13.out)
    clear bz AW13 RA13 RU13
    go_wp2
    go_ret
    exact ⟨rfl, AW14.out⟩
set_option maxHeartbeats 16000000 in
set_option maxRecDepth 100000 in
theorem vl_inf (x y z : Nat) (w : World) (hx : x < 18446744073709551616) (hy : y < 18446744073709551616) (hz : z < 18446744073709551616) (g1 : gB x = true) (g2 : gB y = true) (g3 : gB z = true) (l0 : (lnB x y z) = 9218868437227405312) :
    Calls Try.prog 4 #[.agg #[.float .f64 x, .float .f64 y, .float .f64 z]] w fun e w' => e = .returned (.bool true) ∧ Below w.heap.size w w' := by
  have LV := hid (fun w => lives7_at w)
  have LN := hid (fun x y z w (hx : Hid (x < 18446744073709551616)) (hy : Hid (y < 18446744073709551616)) (hz : Hid (z < 18446744073709551616)) => length_at x y z w hx hy hz)
  have UN := hid (fun x y z w (hx : Hid (x < 18446744073709551616)) (hy : Hid (y < 18446744073709551616)) (hz : Hid (z < 18446744073709551616)) => unit_at x y z w hx hy hz)
  have AT := hid (fun x y z w => at_at x y z w)
  have CN := hid (fun x w (hx : Hid (x < 18446744073709551616)) => canon_b x w hx)
  have GO := hid (fun x w (hx : Hid (x < 18446744073709551616)) => good_at x w hx)
  have MX := hid (fun a b w (ha : Hid (a < 18446744073709551616)) (hb : Hid (b < 18446744073709551616)) => max_b a b w ha hb)
  have PA := hid (fun u x w (h : Hid (Part u x)) => part_at u x w h)
  have SA := hid (fun a b w (h : a = b) => same_of a b w h)
  have AL := hid (fun x y z p q r w (h : x = p ∧ y = q ∧ z = r) => alike_of x y z p q r w h)
  have HL : Hid ((lnB x y z) < 18446744073709551616) := rtB_lt _
  have H0 : Hid (0 < 18446744073709551616) := hid (by decide)
  have E1 : Hid (canonB (lnB x y z) = (lnB x y z)) := lnB_canon x y z
  have N0 : flt (lnB x y z) 0 = false := ln_nn x y z
  have GX := gB_Gd hx g1
  have GY := gB_Gd hy g2
  have GZ := gB_Gd hz g3
  have mxf := mx_facts hx hy hz GX GY GZ
  have q1 : flt (lnB x y z) (maxB (maxB (maxB x (negB x)) (maxB y (negB y))) (maxB z (negB z))) = false := mxf.1
  have q2 : feq (lnB x y z) 0 = false := by rw [l0]; decide +kernel
  have q3 : feq (maxB (maxB (maxB x (negB x)) (maxB y (negB y))) (maxB z (negB z))) 0 = false := mxf.2.trans q2
  have nx := negFloat_eq x hx
  have ny := negFloat_eq y hy
  have nz := negFloat_eq z hz
  have f0 := feq00
  have Hnx : Hid (negB x < 18446744073709551616) := negB_lt' hx
  have Hny : Hid (negB y < 18446744073709551616) := negB_lt' hy
  have Hnz : Hid (negB z < 18446744073709551616) := negB_lt' hz
  have Hax : Hid ((maxB x (negB x)) < 18446744073709551616) := maxB_lt hx (negB_lt' hx)
  have Hay : Hid ((maxB y (negB y)) < 18446744073709551616) := maxB_lt hy (negB_lt' hy)
  have Haz : Hid ((maxB z (negB z)) < 18446744073709551616) := maxB_lt hz (negB_lt' hz)
  have Hxy : Hid ((maxB (maxB x (negB x)) (maxB y (negB y))) < 18446744073709551616) := maxB_lt Hax.out Hay.out
  have E2 : Hid (lnB x 0 0 = (maxB x (negB x))) := by rw [max_abs hx GX.1]; exact len_one hx GX
  have E3 : Hid (unB (lnB x y z) x = 0 ∧ unB (lnB x y z) y = 0 ∧ unB (lnB x y z) z = 0) := ⟨unit_none (.inr l0) x, unit_none (.inr l0) y, unit_none (.inr l0) z⟩
  have HL0 := hid l0
  clear l0
  clear mxf GX GY GZ
  obtain ⟨bx, hbx⟩ : ∃ p, feq x 0 = p := ⟨_, rfl⟩
  have Hx := hid hx
  have Hy := hid hy
  have Hz := hid hz
  have A0 := hid (bl1 w (.cells #[.float .f64 x, .float .f64 y, .float .f64 z] 24))
  have R0 := hid (heap_alloc_new w (.cells #[.float .f64 x, .float .f64 y, .float .f64 z] 24))
  clear hx hy hz
  go_enter Try.func4, Try.ntmps4
  go_wp2_with fail
  refine (LV.out _).mono ?_
  rintro e v1 ⟨rfl, b1⟩
  have AW1 : Hid (Ab w v1) := Ab.call A0.out b1
  have RA1 := hid (Ab.heap b1 R0.out)
  clear b1 A0 R0
  obtain ⟨-, xA0, xA1, xA2⟩ := rowfacts RA1.out
  go_wp2_with fail
  refine Calls.mono (LN.out _ _ _ _ (by assumption) (by assumption) (by assumption)) ?_
  rintro e v2 ⟨rfl, b2⟩
  clear xA0 xA1 xA2
  have AW2 : Hid (Ab w v2) := AW1.out.call b2
  have RA2 := hid (Ab.heap b2 RA1.out)
  clear b2 AW1 RA1
  obtain ⟨-, xA0, xA1, xA2⟩ := rowfacts RA2.out
  go_wp2_with fail
  refine Calls.mono (UN.out _ _ _ _ (by assumption) (by assumption) (by assumption)) ?_
  rintro e v3 ⟨rfl, b3⟩
  clear xA0 xA1 xA2
  have AW3 : Hid (Ab w v3) := AW2.out.call b3
  have RA3 := hid (Ab.heap b3 RA2.out)
  clear b3 AW2 RA2
  go_upto_region 5 with fail
  generalize hV : World.alloc v3 _ = v4
  obtain ⟨gu, hgn⟩ : ∃ g, v3.heap.size = g := ⟨_, rfl⟩
  have Rn : Hid (v4.heap[gu]? = some (.cells #[.float .f64 (unB (lnB x y z) x), .float .f64 (unB (lnB x y z) y), .float .f64 (unB (lnB x y z) z)] 24)) := by rw [← hV, ← hgn]; exact heap_alloc_new _ _
  have bn : Below v3.heap.size v3 v4 := by rw [← hV]; exact bl1 _ _
  rw [hgn]
  clear hV hgn
  have AW4 : Hid (Ab w v4) := AW3.out.call bn
  have RA4 := hid (Ab.heap bn RA3.out)
  clear bn AW3 RA3
  have RU4 := Rn
  clear Rn
  go_wp2_with fail
  refine Calls.mono (CN.out _ _ (by assumption)) ?_
  rintro e v5 ⟨rfl, b5⟩
  have AW5 : Hid (Ab w v5) := AW4.out.call b5
  have RA5 := hid (Ab.heap b5 RA4.out)
  have RU5 := hid (Ab.heap b5 RU4.out)
  clear b5 AW4 RA4 RU4
  go_wp2_with fail
  refine Calls.mono (SA.out _ _ _ (by first | (with_reducible exact E1.out))) ?_
  rintro e v6 ⟨rfl, b6⟩
  have AW6 : Hid (Ab w v6) := AW5.out.call b6
  have RA6 := hid (Ab.heap b6 RA5.out)
  have RU6 := hid (Ab.heap b6 RU5.out)
  clear b6 AW5 RA5 RU5
  obtain ⟨-, xA0, xA1, xA2⟩ := rowfacts RA6.out
  go_wp2_with fail
  refine Calls.mono (GO.out _ _ (by assumption)) ?_
  rintro e v7 ⟨rfl, b7⟩
  clear xA0 xA1 xA2
  have AW7 : Hid (Ab w v7) := AW6.out.call b7
  have RA7 := hid (Ab.heap b7 RA6.out)
  have RU7 := hid (Ab.heap b7 RU6.out)
  clear b7 AW6 RA6 RU6
  obtain ⟨-, xA0, xA1, xA2⟩ := rowfacts RA7.out
  go_wp2_with fail
  refine Calls.mono (GO.out _ _ (by assumption)) ?_
  rintro e v8 ⟨rfl, b8⟩
  clear xA0 xA1 xA2
  have AW8 : Hid (Ab w v8) := AW7.out.call b8
  have RA8 := hid (Ab.heap b8 RA7.out)
  have RU8 := hid (Ab.heap b8 RU7.out)
  clear b8 AW7 RA7 RU7
  obtain ⟨-, xA0, xA1, xA2⟩ := rowfacts RA8.out
  go_wp2_with fail
  refine Calls.mono (GO.out _ _ (by assumption)) ?_
  rintro e v9 ⟨rfl, b9⟩
  clear xA0 xA1 xA2
  have AW9 : Hid (Ab w v9) := AW8.out.call b9
  have RA9 := hid (Ab.heap b9 RA8.out)
  have RU9 := hid (Ab.heap b9 RU8.out)
  clear b9 AW8 RA8 RU8
  go_upto_region 9 with fail
  obtain ⟨U, F, hF1, hF2⟩ := cls v9
  have HF := hid hF2
  have HF1 := hid hF1
  have xA0 : ∀ vv, (F vv).cell? ⟨w.heap.size, 0, none⟩ = some (.float .f64 x) := fun vv => cell_of_row _ _ 0 _ _ _ ((hF1 vv).heap RA9.out)
  have xA1 : ∀ vv, (F vv).cell? ⟨w.heap.size, 1, none⟩ = some (.float .f64 y) := fun vv => cell_of_row _ _ 1 _ _ _ ((hF1 vv).heap RA9.out)
  have xA2 : ∀ vv, (F vv).cell? ⟨w.heap.size, 2, none⟩ = some (.float .f64 z) := fun vv => cell_of_row _ _ 2 _ _ _ ((hF1 vv).heap RA9.out)
  have D := HF.out _ (Ab.refl v9).drew
  clear hF1 hF2
  refine region_cls F (by kernel_rfl) (by kernel_rfl) D ?_
  repeat (go_big_quiet_step (first
    | (with_reducible rfl)
    | (go_at_call 19; exact calls_cls HF HF1 (MX.out _ _ _ (by assumption) (by assumption)))))
  refine wpQuiet_nil ?_
  intro wz hwz
  obtain ⟨vv, hv⟩ := hwz
  have bz : Below v9.heap.size v9 wz := by rw [hv]; exact HF1.out vv
  clear hv vv
  clear HF HF1 D xA0 xA1 xA2
  clear F U
  obtain ⟨v10, rfl⟩ : ∃ x, x = wz := ⟨_, rfl⟩
  have AW10 : Hid (Ab w v10) := AW9.out.call bz
  have RA10 := hid (Ab.heap bz RA9.out)
  have RU10 := hid (Ab.heap bz RU9.out)
  clear bz AW9 RA9 RU9
  obtain ⟨-, xA0, xA1, xA2⟩ := rowfacts RA10.out
  go_wp2_with fail
  refine Calls.mono (AT.out _ _ _ _) ?_
  rintro e v11 ⟨rfl, b11⟩
  clear xA0 xA1 xA2
  have AW11 : Hid (Ab w v11) := AW10.out.call b11
  have RA11 := hid (Ab.heap b11 RA10.out)
  have RU11 := hid (Ab.heap b11 RU10.out)
  clear b11 AW10 RA10 RU10
  go_upto_region 13 with fail
  generalize hV : World.alloc v11 _ = v12
  obtain ⟨gx, hgn⟩ : ∃ g, v11.heap.size = g := ⟨_, rfl⟩
  have Rn : Hid (v12.heap[gx]? = some (.cells #[.float .f64 x, .float .f64 0, .float .f64 0] 24)) := by rw [← hV, ← hgn]; exact heap_alloc_new _ _
  have bn : Below v11.heap.size v11 v12 := by rw [← hV]; exact bl1 _ _
  rw [hgn]
  clear hV hgn
  have AW12 : Hid (Ab w v12) := AW11.out.call bn
  have RA12 := hid (Ab.heap bn RA11.out)
  have RU12 := hid (Ab.heap bn RU11.out)
  clear bn AW11 RA11 RU11
  have RX12 := Rn
  clear Rn
  cases bx
  all_goals
    obtain ⟨U, F, hF1, hF2⟩ := cls v12
    have HF := hid hF2
    have HF1 := hid hF1
    have xA0 : ∀ vv, (F vv).cell? ⟨w.heap.size, 0, none⟩ = some (.float .f64 x) := fun vv => cell_of_row _ _ 0 _ _ _ ((hF1 vv).heap RA12.out)
    have xA1 : ∀ vv, (F vv).cell? ⟨w.heap.size, 1, none⟩ = some (.float .f64 y) := fun vv => cell_of_row _ _ 1 _ _ _ ((hF1 vv).heap RA12.out)
    have xA2 : ∀ vv, (F vv).cell? ⟨w.heap.size, 2, none⟩ = some (.float .f64 z) := fun vv => cell_of_row _ _ 2 _ _ _ ((hF1 vv).heap RA12.out)
    have xX0 : ∀ vv, (F vv).cell? ⟨gx, 0, none⟩ = some (.float .f64 x) := fun vv => cell_of_row _ _ 0 _ _ _ ((hF1 vv).heap RX12.out)
    have xX1 : ∀ vv, (F vv).cell? ⟨gx, 1, none⟩ = some (.float .f64 0) := fun vv => cell_of_row _ _ 1 _ _ _ ((hF1 vv).heap RX12.out)
    have xX2 : ∀ vv, (F vv).cell? ⟨gx, 2, none⟩ = some (.float .f64 0) := fun vv => cell_of_row _ _ 2 _ _ _ ((hF1 vv).heap RX12.out)
    have D := HF.out _ (Ab.refl v12).drew
    clear hF1 hF2
    refine region_cls F (by kernel_rfl) (by kernel_rfl) D ?_
    repeat (go_big_quiet_step (first
      | (with_reducible rfl)
      | (go_at_call 15; exact calls_cls HF HF1 (LN.out _ _ _ _ (by assumption) (by assumption) (by assumption)))
      | (go_at_call 19; exact calls_cls HF HF1 (MX.out _ _ _ (by assumption) (by assumption)))
      | (go_at_call 14; exact calls_cls HF HF1 (SA.out _ _ _ (by first | (with_reducible exact E2.out))))))
    refine wpQuiet_nil ?_
    intro wz hwz
    obtain ⟨vv, hv⟩ := hwz
    have bz : Below v12.heap.size v12 wz := by rw [hv]; exact HF1.out vv
    clear hv vv
    clear HF HF1 D xA0 xA1 xA2 xX0 xX1 xX2
    clear F U
    obtain ⟨v13, rfl⟩ : ∃ x, x = wz := ⟨_, rfl⟩
    have AW13 : Hid (Ab w v13) := AW12.out.call bz
    have RA13 := hid (Ab.heap bz RA12.out)
    have RU13 := hid (Ab.heap bz RU12.out)
    have RX13 := hid (Ab.heap bz RX12.out)
    clear bz AW12 RA12 RU12 RX12
    rcases sub_own (P := Try.prog) v13 (lnB x y z) HL.out with ⟨fl, kl⟩ | ⟨rl, nl, kl⟩
    · exfalso
      rw [HL0.out] at fl
      exact absurd fl (by decide)
    · go_upto_region 16 with fail
      obtain ⟨v14, hv⟩ : ∃ v, v13.drew = v := ⟨_, rfl⟩
      have bd : Below v13.heap.size v13 v14 := by rw [← hv]; exact Ab.drew (Ab.refl _)
      rw [hv]
      clear hv kl
      have AW14 : Hid (Ab w v14) := AW13.out.call bd
      have RA14 := hid (Ab.heap bd RA13.out)
      have RU14 := hid (Ab.heap bd RU13.out)
      clear bd AW13 RA13 RU13
      obtain ⟨U, F, hF1, hF2⟩ := cls v14
      have HF := hid hF2
      have HF1 := hid hF1
      have xU0 : ∀ vv, (F vv).cell? ⟨gu, 0, none⟩ = some (.float .f64 (unB (lnB x y z) x)) := fun vv => cell_of_row _ _ 0 _ _ _ ((hF1 vv).heap RU14.out)
      have xU1 : ∀ vv, (F vv).cell? ⟨gu, 1, none⟩ = some (.float .f64 (unB (lnB x y z) y)) := fun vv => cell_of_row _ _ 1 _ _ _ ((hF1 vv).heap RU14.out)
      have xU2 : ∀ vv, (F vv).cell? ⟨gu, 2, none⟩ = some (.float .f64 (unB (lnB x y z) z)) := fun vv => cell_of_row _ _ 2 _ _ _ ((hF1 vv).heap RU14.out)
      have D := HF.out _ (Ab.refl v14).drew
      clear hF1 hF2
      refine region_cls F (by kernel_rfl) (by kernel_rfl) D ?_
      repeat (go_big_quiet_step (first
        | (with_reducible rfl)
        | (go_at_call 9; exact calls_cls HF HF1 (AT.out _ _ _ _))
        | (go_at_call 11; exact calls_cls HF HF1 (AL.out _ _ _ _ _ _ _ (by first | (with_reducible exact E3.out))))))
      refine wpQuiet_nil ?_
      intro wz hwz
      obtain ⟨vv, hv⟩ := hwz
      have bz : Below v14.heap.size v14 wz := by rw [hv]; exact HF1.out vv
      clear hv vv
      clear HF HF1 D xU0 xU1 xU2
      clear F U
      obtain ⟨v15, rfl⟩ : ∃ x, x = wz := ⟨_, rfl⟩
      have AW15 : Hid (Ab w v15) := AW14.out.call bz
      have RA15 := hid (Ab.heap bz RA14.out)
      have RU15 := hid (Ab.heap bz RU14.out)
      clear bz AW14 RA14 RU14
      go_wp2
      go_ret
      exact ⟨rfl, AW15.out⟩
set_option maxHeartbeats 16000000 in
set_option maxRecDepth 100000 in
theorem vl_fin (x y z : Nat) (w : World) (hx : x < 18446744073709551616) (hy : y < 18446744073709551616) (hz : z < 18446744073709551616) (g1 : gB x = true) (g2 : gB y = true) (g3 : gB z = true) (l0 : (lnB x y z) ≠ 0) (l1 : (lnB x y z) < 9218868437227405312) :
    Calls Try.prog 4 #[.agg #[.float .f64 x, .float .f64 y, .float .f64 z]] w fun e w' => e = .returned (.bool true) ∧ Below w.heap.size w w' := by
  have LV := hid (fun w => lives7_at w)
  have LN := hid (fun x y z w (hx : Hid (x < 18446744073709551616)) (hy : Hid (y < 18446744073709551616)) (hz : Hid (z < 18446744073709551616)) => length_at x y z w hx hy hz)
  have UN := hid (fun x y z w (hx : Hid (x < 18446744073709551616)) (hy : Hid (y < 18446744073709551616)) (hz : Hid (z < 18446744073709551616)) => unit_at x y z w hx hy hz)
  have AT := hid (fun x y z w => at_at x y z w)
  have CN := hid (fun x w (hx : Hid (x < 18446744073709551616)) => canon_b x w hx)
  have GO := hid (fun x w (hx : Hid (x < 18446744073709551616)) => good_at x w hx)
  have MX := hid (fun a b w (ha : Hid (a < 18446744073709551616)) (hb : Hid (b < 18446744073709551616)) => max_b a b w ha hb)
  have PA := hid (fun u x w (h : Hid (Part u x)) => part_at u x w h)
  have SA := hid (fun a b w (h : a = b) => same_of a b w h)
  have AL := hid (fun x y z p q r w (h : x = p ∧ y = q ∧ z = r) => alike_of x y z p q r w h)
  have HL : Hid ((lnB x y z) < 18446744073709551616) := rtB_lt _
  have H0 : Hid (0 < 18446744073709551616) := hid (by decide)
  have E1 : Hid (canonB (lnB x y z) = (lnB x y z)) := lnB_canon x y z
  have N0 : flt (lnB x y z) 0 = false := ln_nn x y z
  have GX := gB_Gd hx g1
  have GY := gB_Gd hy g2
  have GZ := gB_Gd hz g3
  have mxf := mx_facts hx hy hz GX GY GZ
  have q1 : flt (lnB x y z) (maxB (maxB (maxB x (negB x)) (maxB y (negB y))) (maxB z (negB z))) = false := mxf.1
  have q2 : feq (lnB x y z) 0 = false := by rw [feq_zero' (by omega), decide_eq_false l0]
  have q3 : feq (maxB (maxB (maxB x (negB x)) (maxB y (negB y))) (maxB z (negB z))) 0 = false := mxf.2.trans q2
  have nx := negFloat_eq x hx
  have ny := negFloat_eq y hy
  have nz := negFloat_eq z hz
  have f0 := feq00
  have Hnx : Hid (negB x < 18446744073709551616) := negB_lt' hx
  have Hny : Hid (negB y < 18446744073709551616) := negB_lt' hy
  have Hnz : Hid (negB z < 18446744073709551616) := negB_lt' hz
  have Hax : Hid ((maxB x (negB x)) < 18446744073709551616) := maxB_lt hx (negB_lt' hx)
  have Hay : Hid ((maxB y (negB y)) < 18446744073709551616) := maxB_lt hy (negB_lt' hy)
  have Haz : Hid ((maxB z (negB z)) < 18446744073709551616) := maxB_lt hz (negB_lt' hz)
  have Hxy : Hid ((maxB (maxB x (negB x)) (maxB y (negB y))) < 18446744073709551616) := maxB_lt Hax.out Hay.out
  have E2 : Hid (lnB x 0 0 = (maxB x (negB x))) := by rw [max_abs hx GX.1]; exact len_one hx GX
  have lg := len_good hx hy hz GX GY GZ
  have Px : Hid (Part (unB (lnB x y z) x) x) := unit_ok hx hy hz GX GY GZ hx GX lg.2.1.1 l0 l1
  have Py : Hid (Part (unB (lnB x y z) y) y) := unit_ok hx hy hz GX GY GZ hy GY lg.2.1.2.1 l0 l1
  have Pz : Hid (Part (unB (lnB x y z) z) z) := unit_ok hx hy hz GX GY GZ hz GZ lg.2.1.2.2 l0 l1
  clear lg
  have HL1 := hid l1
  clear l0 l1
  clear mxf GX GY GZ
  obtain ⟨bx, hbx⟩ : ∃ p, feq x 0 = p := ⟨_, rfl⟩
  have Hx := hid hx
  have Hy := hid hy
  have Hz := hid hz
  have A0 := hid (bl1 w (.cells #[.float .f64 x, .float .f64 y, .float .f64 z] 24))
  have R0 := hid (heap_alloc_new w (.cells #[.float .f64 x, .float .f64 y, .float .f64 z] 24))
  clear hx hy hz
  go_enter Try.func4, Try.ntmps4
  go_wp2_with fail
  refine (LV.out _).mono ?_
  rintro e v1 ⟨rfl, b1⟩
  have AW1 : Hid (Ab w v1) := Ab.call A0.out b1
  have RA1 := hid (Ab.heap b1 R0.out)
  clear b1 A0 R0
  obtain ⟨-, xA0, xA1, xA2⟩ := rowfacts RA1.out
  go_wp2_with fail
  refine Calls.mono (LN.out _ _ _ _ (by assumption) (by assumption) (by assumption)) ?_
  rintro e v2 ⟨rfl, b2⟩
  clear xA0 xA1 xA2
  have AW2 : Hid (Ab w v2) := AW1.out.call b2
  have RA2 := hid (Ab.heap b2 RA1.out)
  clear b2 AW1 RA1
  obtain ⟨-, xA0, xA1, xA2⟩ := rowfacts RA2.out
  go_wp2_with fail
  refine Calls.mono (UN.out _ _ _ _ (by assumption) (by assumption) (by assumption)) ?_
  rintro e v3 ⟨rfl, b3⟩
  clear xA0 xA1 xA2
  have AW3 : Hid (Ab w v3) := AW2.out.call b3
  have RA3 := hid (Ab.heap b3 RA2.out)
  clear b3 AW2 RA2
  go_upto_region 5 with fail
  generalize hV : World.alloc v3 _ = v4
  obtain ⟨gu, hgn⟩ : ∃ g, v3.heap.size = g := ⟨_, rfl⟩
  have Rn : Hid (v4.heap[gu]? = some (.cells #[.float .f64 (unB (lnB x y z) x), .float .f64 (unB (lnB x y z) y), .float .f64 (unB (lnB x y z) z)] 24)) := by rw [← hV, ← hgn]; exact heap_alloc_new _ _
  have bn : Below v3.heap.size v3 v4 := by rw [← hV]; exact bl1 _ _
  rw [hgn]
  clear hV hgn
  have AW4 : Hid (Ab w v4) := AW3.out.call bn
  have RA4 := hid (Ab.heap bn RA3.out)
  clear bn AW3 RA3
  have RU4 := Rn
  clear Rn
  go_wp2_with fail
  refine Calls.mono (CN.out _ _ (by assumption)) ?_
  rintro e v5 ⟨rfl, b5⟩
  have AW5 : Hid (Ab w v5) := AW4.out.call b5
  have RA5 := hid (Ab.heap b5 RA4.out)
  have RU5 := hid (Ab.heap b5 RU4.out)
  clear b5 AW4 RA4 RU4
  go_wp2_with fail
  refine Calls.mono (SA.out _ _ _ (by first | (with_reducible exact E1.out))) ?_
  rintro e v6 ⟨rfl, b6⟩
  have AW6 : Hid (Ab w v6) := AW5.out.call b6
  have RA6 := hid (Ab.heap b6 RA5.out)
  have RU6 := hid (Ab.heap b6 RU5.out)
  clear b6 AW5 RA5 RU5
  obtain ⟨-, xA0, xA1, xA2⟩ := rowfacts RA6.out
  go_wp2_with fail
  refine Calls.mono (GO.out _ _ (by assumption)) ?_
  rintro e v7 ⟨rfl, b7⟩
  clear xA0 xA1 xA2
  have AW7 : Hid (Ab w v7) := AW6.out.call b7
  have RA7 := hid (Ab.heap b7 RA6.out)
  have RU7 := hid (Ab.heap b7 RU6.out)
  clear b7 AW6 RA6 RU6
  obtain ⟨-, xA0, xA1, xA2⟩ := rowfacts RA7.out
  go_wp2_with fail
  refine Calls.mono (GO.out _ _ (by assumption)) ?_
  rintro e v8 ⟨rfl, b8⟩
  clear xA0 xA1 xA2
  have AW8 : Hid (Ab w v8) := AW7.out.call b8
  have RA8 := hid (Ab.heap b8 RA7.out)
  have RU8 := hid (Ab.heap b8 RU7.out)
  clear b8 AW7 RA7 RU7
  obtain ⟨-, xA0, xA1, xA2⟩ := rowfacts RA8.out
  go_wp2_with fail
  refine Calls.mono (GO.out _ _ (by assumption)) ?_
  rintro e v9 ⟨rfl, b9⟩
  clear xA0 xA1 xA2
  have AW9 : Hid (Ab w v9) := AW8.out.call b9
  have RA9 := hid (Ab.heap b9 RA8.out)
  have RU9 := hid (Ab.heap b9 RU8.out)
  clear b9 AW8 RA8 RU8
  go_upto_region 9 with fail
  obtain ⟨U, F, hF1, hF2⟩ := cls v9
  have HF := hid hF2
  have HF1 := hid hF1
  have xA0 : ∀ vv, (F vv).cell? ⟨w.heap.size, 0, none⟩ = some (.float .f64 x) := fun vv => cell_of_row _ _ 0 _ _ _ ((hF1 vv).heap RA9.out)
  have xA1 : ∀ vv, (F vv).cell? ⟨w.heap.size, 1, none⟩ = some (.float .f64 y) := fun vv => cell_of_row _ _ 1 _ _ _ ((hF1 vv).heap RA9.out)
  have xA2 : ∀ vv, (F vv).cell? ⟨w.heap.size, 2, none⟩ = some (.float .f64 z) := fun vv => cell_of_row _ _ 2 _ _ _ ((hF1 vv).heap RA9.out)
  have D := HF.out _ (Ab.refl v9).drew
  clear hF1 hF2
  refine region_cls F (by kernel_rfl) (by kernel_rfl) D ?_
  repeat (go_big_quiet_step (first
    | (with_reducible rfl)
    | (go_at_call 19; exact calls_cls HF HF1 (MX.out _ _ _ (by assumption) (by assumption)))))
  refine wpQuiet_nil ?_
  intro wz hwz
  obtain ⟨vv, hv⟩ := hwz
  have bz : Below v9.heap.size v9 wz := by rw [hv]; exact HF1.out vv
  clear hv vv
  clear HF HF1 D xA0 xA1 xA2
  clear F U
  obtain ⟨v10, rfl⟩ : ∃ x, x = wz := ⟨_, rfl⟩
  have AW10 : Hid (Ab w v10) := AW9.out.call bz
  have RA10 := hid (Ab.heap bz RA9.out)
  have RU10 := hid (Ab.heap bz RU9.out)
  clear bz AW9 RA9 RU9
  obtain ⟨-, xA0, xA1, xA2⟩ := rowfacts RA10.out
  go_wp2_with fail
  refine Calls.mono (AT.out _ _ _ _) ?_
  rintro e v11 ⟨rfl, b11⟩
  clear xA0 xA1 xA2
  have AW11 : Hid (Ab w v11) := AW10.out.call b11
  have RA11 := hid (Ab.heap b11 RA10.out)
  have RU11 := hid (Ab.heap b11 RU10.out)
  clear b11 AW10 RA10 RU10
  go_upto_region 13 with fail
  generalize hV : World.alloc v11 _ = v12
  obtain ⟨gx, hgn⟩ : ∃ g, v11.heap.size = g := ⟨_, rfl⟩
  have Rn : Hid (v12.heap[gx]? = some (.cells #[.float .f64 x, .float .f64 0, .float .f64 0] 24)) := by rw [← hV, ← hgn]; exact heap_alloc_new _ _
  have bn : Below v11.heap.size v11 v12 := by rw [← hV]; exact bl1 _ _
  rw [hgn]
  clear hV hgn
  have AW12 : Hid (Ab w v12) := AW11.out.call bn
  have RA12 := hid (Ab.heap bn RA11.out)
  have RU12 := hid (Ab.heap bn RU11.out)
  clear bn AW11 RA11 RU11
  have RX12 := Rn
  clear Rn
  cases bx
  all_goals
    obtain ⟨U, F, hF1, hF2⟩ := cls v12
    have HF := hid hF2
    have HF1 := hid hF1
    have xA0 : ∀ vv, (F vv).cell? ⟨w.heap.size, 0, none⟩ = some (.float .f64 x) := fun vv => cell_of_row _ _ 0 _ _ _ ((hF1 vv).heap RA12.out)
    have xA1 : ∀ vv, (F vv).cell? ⟨w.heap.size, 1, none⟩ = some (.float .f64 y) := fun vv => cell_of_row _ _ 1 _ _ _ ((hF1 vv).heap RA12.out)
    have xA2 : ∀ vv, (F vv).cell? ⟨w.heap.size, 2, none⟩ = some (.float .f64 z) := fun vv => cell_of_row _ _ 2 _ _ _ ((hF1 vv).heap RA12.out)
    have xX0 : ∀ vv, (F vv).cell? ⟨gx, 0, none⟩ = some (.float .f64 x) := fun vv => cell_of_row _ _ 0 _ _ _ ((hF1 vv).heap RX12.out)
    have xX1 : ∀ vv, (F vv).cell? ⟨gx, 1, none⟩ = some (.float .f64 0) := fun vv => cell_of_row _ _ 1 _ _ _ ((hF1 vv).heap RX12.out)
    have xX2 : ∀ vv, (F vv).cell? ⟨gx, 2, none⟩ = some (.float .f64 0) := fun vv => cell_of_row _ _ 2 _ _ _ ((hF1 vv).heap RX12.out)
    have D := HF.out _ (Ab.refl v12).drew
    clear hF1 hF2
    refine region_cls F (by kernel_rfl) (by kernel_rfl) D ?_
    repeat (go_big_quiet_step (first
      | (with_reducible rfl)
      | (go_at_call 15; exact calls_cls HF HF1 (LN.out _ _ _ _ (by assumption) (by assumption) (by assumption)))
      | (go_at_call 19; exact calls_cls HF HF1 (MX.out _ _ _ (by assumption) (by assumption)))
      | (go_at_call 14; exact calls_cls HF HF1 (SA.out _ _ _ (by first | (with_reducible exact E2.out))))))
    refine wpQuiet_nil ?_
    intro wz hwz
    obtain ⟨vv, hv⟩ := hwz
    have bz : Below v12.heap.size v12 wz := by rw [hv]; exact HF1.out vv
    clear hv vv
    clear HF HF1 D xA0 xA1 xA2 xX0 xX1 xX2
    clear F U
    obtain ⟨v13, rfl⟩ : ∃ x, x = wz := ⟨_, rfl⟩
    have AW13 : Hid (Ab w v13) := AW12.out.call bz
    have RA13 := hid (Ab.heap bz RA12.out)
    have RU13 := hid (Ab.heap bz RU12.out)
    have RX13 := hid (Ab.heap bz RX12.out)
    clear bz AW12 RA12 RU12 RX12
    rcases sub_own (P := Try.prog) v13 (lnB x y z) HL.out with ⟨fl, kl⟩ | ⟨rl, nl, kl⟩
    case inr =>
      exfalso
      have h7 : mg (lnB x y z) < 9218868437227405312 := by rw [mg_of_lt (Nat.lt_trans HL1.out (by decide))]; exact HL1.out
      have h8 := kl 22
      rw [run_float_arith v13 .sub 22 .f64 _ _ 0 (sub_self _ HL.out h7)] at h8
      injection h8 with h9 h10
      injection h9 with h11 h12
      rw [← h12] at nl
      exact absurd nl (by decide)
    case inl =>
      clear fl
      obtain ⟨-, xA0, xA1, xA2⟩ := rowfacts RA13.out
      obtain ⟨-, xU0, xU1, xU2⟩ := rowfacts RU13.out
      go_wp2_with fail
      refine Calls.mono (PA.out _ _ _ (by with_reducible assumption)) ?_
      rintro e v14 ⟨rfl, b14⟩
      clear kl
      clear xA0 xA1 xA2 xU0 xU1 xU2
      have AW14 : Hid (Ab w v14) := AW13.out.call b14
      have RA14 := hid (Ab.heap b14 RA13.out)
      have RU14 := hid (Ab.heap b14 RU13.out)
      clear b14 AW13 RA13 RU13
      obtain ⟨-, xA0, xA1, xA2⟩ := rowfacts RA14.out
      obtain ⟨-, xU0, xU1, xU2⟩ := rowfacts RU14.out
      go_wp2_with fail
      refine Calls.mono (PA.out _ _ _ (by with_reducible assumption)) ?_
      rintro e v15 ⟨rfl, b15⟩
      clear xA0 xA1 xA2 xU0 xU1 xU2
      have AW15 : Hid (Ab w v15) := AW14.out.call b15
      have RA15 := hid (Ab.heap b15 RA14.out)
      have RU15 := hid (Ab.heap b15 RU14.out)
      clear b15 AW14 RA14 RU14
      obtain ⟨-, xA0, xA1, xA2⟩ := rowfacts RA15.out
      obtain ⟨-, xU0, xU1, xU2⟩ := rowfacts RU15.out
      go_wp2_with fail
      refine Calls.mono (PA.out _ _ _ (by with_reducible assumption)) ?_
      rintro e v16 ⟨rfl, b16⟩
      clear xA0 xA1 xA2 xU0 xU1 xU2
      have AW16 : Hid (Ab w v16) := AW15.out.call b16
      have RA16 := hid (Ab.heap b16 RA15.out)
      have RU16 := hid (Ab.heap b16 RU15.out)
      clear b16 AW15 RA15 RU15
      go_wp2
      go_ret
      exact ⟨rfl, AW16.out⟩
theorem vecLengths_walk (x y z : Nat) (w : World) (hx : x < 18446744073709551616) (hy : y < 18446744073709551616) (hz : z < 18446744073709551616) :
    Calls Try.prog 4 #[.agg #[.float .f64 x, .float .f64 y, .float .f64 z]] w fun e w' => e = .returned (.bool true) ∧ Below w.heap.size w w' := by
  cases g1 : gB x with
  | false => exact vl_b1 x y z w hx hy hz g1
  | true =>
    cases g2 : gB y with
    | false => exact vl_b2 x y z w hx hy hz g1 g2
    | true =>
      cases g3 : gB z with
      | false => exact vl_b3 x y z w hx hy hz g1 g2 g3
      | true =>
        have hl := (len_good hx hy hz (gB_Gd hx g1) (gB_Gd hy g2) (gB_Gd hz g3)).1
        by_cases c0 : (lnB x y z) = 0
        · exact vl_zero x y z w hx hy hz g1 g2 g3 c0
        · by_cases c1 : (lnB x y z) = 9218868437227405312
          · exact vl_inf x y z w hx hy hz g1 g2 g3 c1
          · exact vl_fin x y z w hx hy hz g1 g2 g3 c0 (Nat.lt_of_le_of_ne hl c1)
end Go.Proofs.Ytgfggfkmfhonbaa
