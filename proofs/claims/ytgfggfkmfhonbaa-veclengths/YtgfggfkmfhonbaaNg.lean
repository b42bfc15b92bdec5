/-
  The statement on axes changed about: the walk.
-/
import Derived.Test.YtgfggfkmfhonbaaNf
namespace Go.Proofs.Ytgfggfkmfhonbaa
open Go.RowKit Tf
attribute [local go_sem] run_bits run_from raw_feq raw_fne raw_flt raw_fgt run_neg run_store_float
theorem same_of (a b : Nat) (w : World) (h : a = b) : Calls Try.prog 14 #[.float .f64 a, .float .f64 b] w fun e w' => e = .returned (.bool true) ∧ Below w.heap.size w w' := by
  subst h; exact same7_self a w
theorem alike_of (x y z p q r : Nat) (w : World) (h : x = p ∧ y = q ∧ z = r) : Calls Try.prog 11 #[.agg #[.float .f64 x, .float .f64 y, .float .f64 z], .agg #[.float .f64 p, .float .f64 q, .float .f64 r]] w fun e w' => e = .returned (.bool true) ∧ Below w.heap.size w w' := by
  obtain ⟨rfl, rfl, rfl⟩ := h; exact alike_self x y z w
theorem canon_b (x : Nat) (w : World) (hx : x < 18446744073709551616) : Calls Try.prog 12 #[.float .f64 x] w fun e w' => e = .returned (.float .f64 (canonB x)) ∧ Below w.heap.size w w' :=
  (canon_any x w hx).mono fun _ _ ⟨he, hw⟩ => ⟨he, hw ▸ Below.refl _ _⟩
set_option maxHeartbeats 16000000 in
set_option maxRecDepth 100000 in
theorem vecAxes_walk (x y z u v t : Nat) (w : World) (hx : x < 18446744073709551616) (hy : y < 18446744073709551616) (hz : z < 18446744073709551616) (hu : u < 18446744073709551616) (hv : v < 18446744073709551616) (ht : t < 18446744073709551616) :
    Calls Try.prog 6 #[.agg #[.float .f64 x, .float .f64 y, .float .f64 z], .agg #[.float .f64 u, .float .f64 v, .float .f64 t]] w fun e w' => e = .returned (.bool true) ∧ Below w.heap.size w w' := by
  have LV := hid (fun w => lives7_at w)
  have MV := hid (fun x y z w => moved_at x y z w)
  have SW := hid (fun x y z w => swapped_at x y z w)
  have TU := hid (fun x y z w (hx : Hid (x < 18446744073709551616)) => turned_at x y z w hx)
  have AG := hid (fun x y z w (hx : Hid (x < 18446744073709551616)) (hy : Hid (y < 18446744073709551616)) (hz : Hid (z < 18446744073709551616)) => against_at x y z w hx hy hz)
  have MI := hid (fun x y z u v t w (hx : Hid (x < 18446744073709551616)) (hy : Hid (y < 18446744073709551616)) (hz : Hid (z < 18446744073709551616)) (hu : Hid (u < 18446744073709551616)) (hv : Hid (v < 18446744073709551616)) (ht : Hid (t < 18446744073709551616)) => minus_at x y z u v t w hx hy hz hu hv ht)
  have CR := hid (fun x y z u v t w (hx : Hid (x < 18446744073709551616)) (hy : Hid (y < 18446744073709551616)) (hz : Hid (z < 18446744073709551616)) (hu : Hid (u < 18446744073709551616)) (hv : Hid (v < 18446744073709551616)) (ht : Hid (t < 18446744073709551616)) => cross_at x y z u v t w hx hy hz hu hv ht)
  have GA := hid (fun x y z u v t w (hx : Hid (x < 18446744073709551616)) (hy : Hid (y < 18446744073709551616)) (hz : Hid (z < 18446744073709551616)) (hu : Hid (u < 18446744073709551616)) (hv : Hid (v < 18446744073709551616)) (ht : Hid (t < 18446744073709551616)) => gap_at x y z u v t w hx hy hz hu hv ht)
  have LN := hid (fun x y z w (hx : Hid (x < 18446744073709551616)) (hy : Hid (y < 18446744073709551616)) (hz : Hid (z < 18446744073709551616)) => length_at x y z w hx hy hz)
  have UN := hid (fun x y z w (hx : Hid (x < 18446744073709551616)) (hy : Hid (y < 18446744073709551616)) (hz : Hid (z < 18446744073709551616)) => unit_at x y z w hx hy hz)
  have SA := hid (fun a b w (h : a = b) => same_of a b w h)
  have AL := hid (fun x y z p q r w (h : x = p ∧ y = q ∧ z = r) => alike_of x y z p q r w h)
  have Hc1 : Hid ((sbB (mlB y t) (mlB z v)) < 18446744073709551616) := sbB_lt (mlB_lt hy ht) (mlB_lt hz hv)
  have Hc2 : Hid ((sbB (mlB z u) (mlB x t)) < 18446744073709551616) := sbB_lt (mlB_lt hz hu) (mlB_lt hx ht)
  have Hc3 : Hid ((sbB (mlB x v) (mlB y u)) < 18446744073709551616) := sbB_lt (mlB_lt hx hv) (mlB_lt hy hu)
  have Hnx : Hid (negB x < 18446744073709551616) := negB_lt' hx
  have Hnu : Hid (negB u < 18446744073709551616) := negB_lt' hu
  have E1 : Hid (sbB (mlB x t) (mlB z u) = canonB (negB (sbB (mlB z u) (mlB x t))) ∧ sbB (mlB z v) (mlB y t) = canonB (negB (sbB (mlB y t) (mlB z v))) ∧ sbB (mlB y u) (mlB x v) = canonB (negB (sbB (mlB x v) (mlB y u)))) := ⟨sbB_anti (mlB_lt hz hu) (mlB_lt hx ht), sbB_anti (mlB_lt hy ht) (mlB_lt hz hv), sbB_anti (mlB_lt hx hv) (mlB_lt hy hu)⟩
  have E2 : Hid (lnB y z x = lnB x y z) := lnB_231 hx hy hz
  have E3 : Hid (lnB y x z = lnB x y z) := lnB_12 hy hx
  have E4 : Hid (lnB (negB x) y z = lnB x y z) := lnB_neg hx
  have E5 : Hid (lnB (sbB y v) (sbB z t) (sbB x u) = lnB (sbB x u) (sbB y v) (sbB z t)) := lnB_231 (sbB_lt hx hu) (sbB_lt hy hv) (sbB_lt hz ht)
  have E6 : Hid (lnB (sbB y v) (sbB x u) (sbB z t) = lnB (sbB x u) (sbB y v) (sbB z t)) := lnB_12 (sbB_lt hy hv) (sbB_lt hx hu)
  have E7 : Hid (lnB (sbB (negB x) (negB u)) (sbB y v) (sbB z t) = lnB (sbB x u) (sbB y v) (sbB z t)) := by rw [sbB_negneg hx hu]; exact lnB_cn (sbB_lt hx hu)
  have E8 : Hid (unB (lnB y z x) y = unB (lnB x y z) y ∧ unB (lnB y z x) z = unB (lnB x y z) z ∧ unB (lnB y z x) x = unB (lnB x y z) x) := by rw [lnB_231 hx hy hz]; exact ⟨rfl, rfl, rfl⟩
  have E9 : Hid (unB (lnB y x z) y = unB (lnB x y z) y ∧ unB (lnB y x z) x = unB (lnB x y z) x ∧ unB (lnB y x z) z = unB (lnB x y z) z) := by rw [lnB_12 hy hx]; exact ⟨rfl, rfl, rfl⟩
  have Hx := hid hx
  have Hy := hid hy
  have Hz := hid hz
  have Hu := hid hu
  have Hv := hid hv
  have Ht := hid ht
  have A0 := hid (bl2 w (.cells #[.float .f64 x, .float .f64 y, .float .f64 z] 24) (.cells #[.float .f64 u, .float .f64 v, .float .f64 t] 24))
  have R0 := hid (And.intro (heap_alloc2_old w (.cells #[.float .f64 x, .float .f64 y, .float .f64 z] 24) (.cells #[.float .f64 u, .float .f64 v, .float .f64 t] 24)) (heap_alloc2_new w (.cells #[.float .f64 x, .float .f64 y, .float .f64 z] 24) (.cells #[.float .f64 u, .float .f64 v, .float .f64 t] 24)))
  clear hx hy hz hu hv ht
  go_enter Try.func6, Try.ntmps6
  go_wp2_with fail
  refine (LV.out _).mono ?_
  rintro e v1 ⟨rfl, b1⟩
  have AW1 : Hid (Ab w v1) := Ab.call A0.out b1
  have RA1 := hid (Ab.heap b1 R0.out.1)
  have RB1 := hid (Ab.heap b1 R0.out.2)
  clear b1 A0 R0
  go_upto_region 3 with fail
  obtain ⟨U, F, hF1, hF2⟩ := cls v1
  have HF := hid hF2
  have HF1 := hid hF1
  have xA0 : ∀ vv, (F vv).cell? ⟨w.heap.size, 0, none⟩ = some (.float .f64 x) := fun vv => cell_of_row _ _ 0 _ _ _ ((hF1 vv).heap RA1.out)
  have xA1 : ∀ vv, (F vv).cell? ⟨w.heap.size, 1, none⟩ = some (.float .f64 y) := fun vv => cell_of_row _ _ 1 _ _ _ ((hF1 vv).heap RA1.out)
  have xA2 : ∀ vv, (F vv).cell? ⟨w.heap.size, 2, none⟩ = some (.float .f64 z) := fun vv => cell_of_row _ _ 2 _ _ _ ((hF1 vv).heap RA1.out)
  have xB0 : ∀ vv, (F vv).cell? ⟨w.heap.size + 1, 0, none⟩ = some (.float .f64 u) := fun vv => cell_of_row _ _ 0 _ _ _ ((hF1 vv).heap RB1.out)
  have xB1 : ∀ vv, (F vv).cell? ⟨w.heap.size + 1, 1, none⟩ = some (.float .f64 v) := fun vv => cell_of_row _ _ 1 _ _ _ ((hF1 vv).heap RB1.out)
  have xB2 : ∀ vv, (F vv).cell? ⟨w.heap.size + 1, 2, none⟩ = some (.float .f64 t) := fun vv => cell_of_row _ _ 2 _ _ _ ((hF1 vv).heap RB1.out)
  have D := HF.out _ (Ab.refl v1).drew
  clear hF1 hF2
  refine region_cls F (by kernel_rfl) (by kernel_rfl) D ?_
  repeat (go_big_quiet_step (first
    | (with_reducible rfl)
    | (go_at_call 23; exact calls_cls HF HF1 (MV.out _ _ _ _))
    | (go_at_call 24; exact calls_cls HF HF1 (SW.out _ _ _ _))
    | (go_at_call 10; exact calls_cls HF HF1 (MI.out _ _ _ _ _ _ _ (by assumption) (by assumption) (by assumption) (by assumption) (by assumption) (by assumption)))
    | (go_at_call 11; exact calls_cls HF HF1 (AL.out _ _ _ _ _ _ _ (by first | (with_reducible exact ⟨rfl, rfl, rfl⟩))))))
  refine wpQuiet_nil ?_
  intro wz hwz
  obtain ⟨vv, hv⟩ := hwz
  have bz : Below v1.heap.size v1 wz := by rw [hv]; exact HF1.out vv
  clear hv vv
  clear HF HF1 D xA0 xA1 xA2 xB0 xB1 xB2
  clear F U
  obtain ⟨v2, rfl⟩ : ∃ x, x = wz := ⟨_, rfl⟩
  have AW2 : Hid (Ab w v2) := AW1.out.call bz
  have RA2 := hid (Ab.heap bz RA1.out)
  have RB2 := hid (Ab.heap bz RB1.out)
  clear bz AW1 RA1 RB1
  obtain ⟨-, xA0, xA1, xA2⟩ := rowfacts RA2.out
  obtain ⟨-, xB0, xB1, xB2⟩ := rowfacts RB2.out
  go_wp2_with fail
  refine (CR.out _ _ _ _ _ _ _ (by assumption) (by assumption) (by assumption) (by assumption) (by assumption) (by assumption)).mono ?_
  rintro e v3 ⟨rfl, b3⟩
  clear xA0 xA1 xA2 xB0 xB1 xB2
  have AW3 : Hid (Ab w v3) := AW2.out.call b3
  have RA3 := hid (Ab.heap b3 RA2.out)
  have RB3 := hid (Ab.heap b3 RB2.out)
  clear b3 AW2 RA2 RB2
  go_upto_region 6 with fail
  generalize hV : World.alloc v3 _ = v4
  obtain ⟨g5, hg5⟩ : ∃ g, v3.heap.size = g := ⟨_, rfl⟩
  have RCn : Hid (v4.heap[g5]? = some (.cells #[.float .f64 (sbB (mlB y t) (mlB z v)), .float .f64 (sbB (mlB z u) (mlB x t)), .float .f64 (sbB (mlB x v) (mlB y u))] 24)) := by rw [← hV, ← hg5]; exact heap_alloc_new _ _
  have bn : Below v3.heap.size v3 v4 := by rw [← hV]; exact bl1 _ _
  rw [hg5]
  clear hV hg5
  have AW4 : Hid (Ab w v4) := AW3.out.call bn
  have RA4 := hid (Ab.heap bn RA3.out)
  have RB4 := hid (Ab.heap bn RB3.out)
  clear bn AW3 RA3 RB3
  have RC4 := RCn
  clear RCn
  obtain ⟨U, F, hF1, hF2⟩ := cls v4
  have HF := hid hF2
  have HF1 := hid hF1
  have xA0 : ∀ vv, (F vv).cell? ⟨w.heap.size, 0, none⟩ = some (.float .f64 x) := fun vv => cell_of_row _ _ 0 _ _ _ ((hF1 vv).heap RA4.out)
  have xA1 : ∀ vv, (F vv).cell? ⟨w.heap.size, 1, none⟩ = some (.float .f64 y) := fun vv => cell_of_row _ _ 1 _ _ _ ((hF1 vv).heap RA4.out)
  have xA2 : ∀ vv, (F vv).cell? ⟨w.heap.size, 2, none⟩ = some (.float .f64 z) := fun vv => cell_of_row _ _ 2 _ _ _ ((hF1 vv).heap RA4.out)
  have xB0 : ∀ vv, (F vv).cell? ⟨w.heap.size + 1, 0, none⟩ = some (.float .f64 u) := fun vv => cell_of_row _ _ 0 _ _ _ ((hF1 vv).heap RB4.out)
  have xB1 : ∀ vv, (F vv).cell? ⟨w.heap.size + 1, 1, none⟩ = some (.float .f64 v) := fun vv => cell_of_row _ _ 1 _ _ _ ((hF1 vv).heap RB4.out)
  have xB2 : ∀ vv, (F vv).cell? ⟨w.heap.size + 1, 2, none⟩ = some (.float .f64 t) := fun vv => cell_of_row _ _ 2 _ _ _ ((hF1 vv).heap RB4.out)
  have xC0 : ∀ vv, (F vv).cell? ⟨g5, 0, none⟩ = some (.float .f64 (sbB (mlB y t) (mlB z v))) := fun vv => cell_of_row _ _ 0 _ _ _ ((hF1 vv).heap RC4.out)
  have xC1 : ∀ vv, (F vv).cell? ⟨g5, 1, none⟩ = some (.float .f64 (sbB (mlB z u) (mlB x t))) := fun vv => cell_of_row _ _ 1 _ _ _ ((hF1 vv).heap RC4.out)
  have xC2 : ∀ vv, (F vv).cell? ⟨g5, 2, none⟩ = some (.float .f64 (sbB (mlB x v) (mlB y u))) := fun vv => cell_of_row _ _ 2 _ _ _ ((hF1 vv).heap RC4.out)
  have D := HF.out _ (Ab.refl v4).drew
  clear hF1 hF2
  refine region_cls F (by kernel_rfl) (by kernel_rfl) D ?_
  repeat (go_big_quiet_step (first
    | (with_reducible rfl)
    | (go_at_call 23; exact calls_cls HF HF1 (MV.out _ _ _ _))
    | (go_at_call 24; exact calls_cls HF HF1 (SW.out _ _ _ _))
    | (go_at_call 13; exact calls_cls HF HF1 (CR.out _ _ _ _ _ _ _ (by assumption) (by assumption) (by assumption) (by assumption) (by assumption) (by assumption)))
    | (go_at_call 21; exact calls_cls HF HF1 (AG.out _ _ _ _ (by assumption) (by assumption) (by assumption)))
    | (go_at_call 11; exact calls_cls HF HF1 (AL.out _ _ _ _ _ _ _ (by first | (with_reducible exact E1.out) | (with_reducible exact ⟨rfl, rfl, rfl⟩))))))
  refine wpQuiet_nil ?_
  intro wz hwz
  obtain ⟨vv, hv⟩ := hwz
  have bz : Below v4.heap.size v4 wz := by rw [hv]; exact HF1.out vv
  clear hv vv
  clear HF HF1 D xA0 xA1 xA2 xB0 xB1 xB2 xC0 xC1 xC2
  clear F U
  obtain ⟨v5, rfl⟩ : ∃ x, x = wz := ⟨_, rfl⟩
  have AW5 : Hid (Ab w v5) := AW4.out.call bz
  have RA5 := hid (Ab.heap bz RA4.out)
  have RB5 := hid (Ab.heap bz RB4.out)
  have RC5 := hid (Ab.heap bz RC4.out)
  clear bz AW4 RA4 RB4 RC4
  obtain ⟨-, xA0, xA1, xA2⟩ := rowfacts RA5.out
  go_wp2_with fail
  refine Calls.mono (LN.out _ _ _ _ (by assumption) (by assumption) (by assumption)) ?_
  rintro e v6 ⟨rfl, b6⟩
  clear xA0 xA1 xA2
  have AW6 : Hid (Ab w v6) := AW5.out.call b6
  have RA6 := hid (Ab.heap b6 RA5.out)
  have RB6 := hid (Ab.heap b6 RB5.out)
  clear b6 AW5 RA5 RB5
  obtain ⟨-, xA0, xA1, xA2⟩ := rowfacts RA6.out
  obtain ⟨-, xB0, xB1, xB2⟩ := rowfacts RB6.out
  go_wp2_with fail
  refine Calls.mono (GA.out _ _ _ _ _ _ _ (by assumption) (by assumption) (by assumption) (by assumption) (by assumption) (by assumption)) ?_
  rintro e v7 ⟨rfl, b7⟩
  clear xA0 xA1 xA2 xB0 xB1 xB2
  have AW7 : Hid (Ab w v7) := AW6.out.call b7
  have RA7 := hid (Ab.heap b7 RA6.out)
  have RB7 := hid (Ab.heap b7 RB6.out)
  clear b7 AW6 RA6 RB6
  obtain ⟨-, xA0, xA1, xA2⟩ := rowfacts RA7.out
  go_wp2_with fail
  refine Calls.mono (MV.out _ _ _ _) ?_
  rintro e v8 ⟨rfl, b8⟩
  clear xA0 xA1 xA2
  have AW8 : Hid (Ab w v8) := AW7.out.call b8
  have RA8 := hid (Ab.heap b8 RA7.out)
  have RB8 := hid (Ab.heap b8 RB7.out)
  clear b8 AW7 RA7 RB7
  go_wp2_with fail
  refine Calls.mono (LN.out _ _ _ _ (by assumption) (by assumption) (by assumption)) ?_
  rintro e v9 ⟨rfl, b9⟩
  have AW9 : Hid (Ab w v9) := AW8.out.call b9
  have RA9 := hid (Ab.heap b9 RA8.out)
  have RB9 := hid (Ab.heap b9 RB8.out)
  clear b9 AW8 RA8 RB8
  go_wp2_with fail
  refine Calls.mono (SA.out _ _ _ (by first | (with_reducible exact E2.out) | (with_reducible exact E3.out) | (with_reducible exact E4.out))) ?_
  rintro e v10 ⟨rfl, b10⟩
  have AW10 : Hid (Ab w v10) := AW9.out.call b10
  have RA10 := hid (Ab.heap b10 RA9.out)
  have RB10 := hid (Ab.heap b10 RB9.out)
  clear b10 AW9 RA9 RB9
  obtain ⟨-, xA0, xA1, xA2⟩ := rowfacts RA10.out
  go_wp2_with fail
  refine Calls.mono (SW.out _ _ _ _) ?_
  rintro e v11 ⟨rfl, b11⟩
  clear xA0 xA1 xA2
  have AW11 : Hid (Ab w v11) := AW10.out.call b11
  have RA11 := hid (Ab.heap b11 RA10.out)
  have RB11 := hid (Ab.heap b11 RB10.out)
  clear b11 AW10 RA10 RB10
  go_wp2_with fail
  refine Calls.mono (LN.out _ _ _ _ (by assumption) (by assumption) (by assumption)) ?_
  rintro e v12 ⟨rfl, b12⟩
  have AW12 : Hid (Ab w v12) := AW11.out.call b12
  have RA12 := hid (Ab.heap b12 RA11.out)
  have RB12 := hid (Ab.heap b12 RB11.out)
  clear b12 AW11 RA11 RB11
  go_wp2_with fail
  refine Calls.mono (SA.out _ _ _ (by first | (with_reducible exact E2.out) | (with_reducible exact E3.out) | (with_reducible exact E4.out))) ?_
  rintro e v13 ⟨rfl, b13⟩
  have AW13 : Hid (Ab w v13) := AW12.out.call b13
  have RA13 := hid (Ab.heap b13 RA12.out)
  have RB13 := hid (Ab.heap b13 RB12.out)
  clear b13 AW12 RA12 RB12
  obtain ⟨-, xA0, xA1, xA2⟩ := rowfacts RA13.out
  go_wp2_with fail
  refine Calls.mono (TU.out _ _ _ _ (by assumption)) ?_
  rintro e v14 ⟨rfl, b14⟩
  clear xA0 xA1 xA2
  have AW14 : Hid (Ab w v14) := AW13.out.call b14
  have RA14 := hid (Ab.heap b14 RA13.out)
  have RB14 := hid (Ab.heap b14 RB13.out)
  clear b14 AW13 RA13 RB13
  go_wp2_with fail
  refine Calls.mono (LN.out _ _ _ _ (by assumption) (by assumption) (by assumption)) ?_
  rintro e v15 ⟨rfl, b15⟩
  have AW15 : Hid (Ab w v15) := AW14.out.call b15
  have RA15 := hid (Ab.heap b15 RA14.out)
  have RB15 := hid (Ab.heap b15 RB14.out)
  clear b15 AW14 RA14 RB14
  go_wp2_with fail
  refine Calls.mono (SA.out _ _ _ (by first | (with_reducible exact E2.out) | (with_reducible exact E3.out) | (with_reducible exact E4.out))) ?_
  rintro e v16 ⟨rfl, b16⟩
  have AW16 : Hid (Ab w v16) := AW15.out.call b16
  have RA16 := hid (Ab.heap b16 RA15.out)
  have RB16 := hid (Ab.heap b16 RB15.out)
  clear b16 AW15 RA15 RB15
  go_upto_region 12 with fail
  obtain ⟨U, F, hF1, hF2⟩ := cls v16
  have HF := hid hF2
  have HF1 := hid hF1
  have xA0 : ∀ vv, (F vv).cell? ⟨w.heap.size, 0, none⟩ = some (.float .f64 x) := fun vv => cell_of_row _ _ 0 _ _ _ ((hF1 vv).heap RA16.out)
  have xA1 : ∀ vv, (F vv).cell? ⟨w.heap.size, 1, none⟩ = some (.float .f64 y) := fun vv => cell_of_row _ _ 1 _ _ _ ((hF1 vv).heap RA16.out)
  have xA2 : ∀ vv, (F vv).cell? ⟨w.heap.size, 2, none⟩ = some (.float .f64 z) := fun vv => cell_of_row _ _ 2 _ _ _ ((hF1 vv).heap RA16.out)
  have xB0 : ∀ vv, (F vv).cell? ⟨w.heap.size + 1, 0, none⟩ = some (.float .f64 u) := fun vv => cell_of_row _ _ 0 _ _ _ ((hF1 vv).heap RB16.out)
  have xB1 : ∀ vv, (F vv).cell? ⟨w.heap.size + 1, 1, none⟩ = some (.float .f64 v) := fun vv => cell_of_row _ _ 1 _ _ _ ((hF1 vv).heap RB16.out)
  have xB2 : ∀ vv, (F vv).cell? ⟨w.heap.size + 1, 2, none⟩ = some (.float .f64 t) := fun vv => cell_of_row _ _ 2 _ _ _ ((hF1 vv).heap RB16.out)
  have D := HF.out _ (Ab.refl v16).drew
  clear hF1 hF2
  refine region_cls F (by kernel_rfl) (by kernel_rfl) D ?_
  repeat (go_big_quiet_step (first
    | (with_reducible rfl)
    | (go_at_call 23; exact calls_cls HF HF1 (MV.out _ _ _ _))
    | (go_at_call 24; exact calls_cls HF HF1 (SW.out _ _ _ _))
    | (go_at_call 25; exact calls_cls HF HF1 (TU.out _ _ _ _ (by assumption)))
    | (go_at_call 22; exact calls_cls HF HF1 (GA.out _ _ _ _ _ _ _ (by assumption) (by assumption) (by assumption) (by assumption) (by assumption) (by assumption)))
    | (go_at_call 14; exact calls_cls HF HF1 (SA.out _ _ _ (by first | (with_reducible exact E5.out) | (with_reducible exact E6.out) | (with_reducible exact E7.out))))))
  refine wpQuiet_nil ?_
  intro wz hwz
  obtain ⟨vv, hv⟩ := hwz
  have bz : Below v16.heap.size v16 wz := by rw [hv]; exact HF1.out vv
  clear hv vv
  clear HF HF1 D xA0 xA1 xA2 xB0 xB1 xB2
  clear F U
  obtain ⟨v17, rfl⟩ : ∃ x, x = wz := ⟨_, rfl⟩
  have AW17 : Hid (Ab w v17) := AW16.out.call bz
  have RA17 := hid (Ab.heap bz RA16.out)
  have RB17 := hid (Ab.heap bz RB16.out)
  clear bz AW16 RA16 RB16
  go_upto_region 14 with fail
  obtain ⟨U, F, hF1, hF2⟩ := cls v17
  have HF := hid hF2
  have HF1 := hid hF1
  have xA0 : ∀ vv, (F vv).cell? ⟨w.heap.size, 0, none⟩ = some (.float .f64 x) := fun vv => cell_of_row _ _ 0 _ _ _ ((hF1 vv).heap RA17.out)
  have xA1 : ∀ vv, (F vv).cell? ⟨w.heap.size, 1, none⟩ = some (.float .f64 y) := fun vv => cell_of_row _ _ 1 _ _ _ ((hF1 vv).heap RA17.out)
  have xA2 : ∀ vv, (F vv).cell? ⟨w.heap.size, 2, none⟩ = some (.float .f64 z) := fun vv => cell_of_row _ _ 2 _ _ _ ((hF1 vv).heap RA17.out)
  have D := HF.out _ (Ab.refl v17).drew
  clear hF1 hF2
  refine region_cls F (by kernel_rfl) (by kernel_rfl) D ?_
  repeat (go_big_quiet_step (first
    | (with_reducible rfl)
    | (go_at_call 23; exact calls_cls HF HF1 (MV.out _ _ _ _))
    | (go_at_call 24; exact calls_cls HF HF1 (SW.out _ _ _ _))
    | (go_at_call 16; exact calls_cls HF HF1 (UN.out _ _ _ _ (by assumption) (by assumption) (by assumption)))
    | (go_at_call 11; exact calls_cls HF HF1 (AL.out _ _ _ _ _ _ _ (by first | (with_reducible exact E8.out) | (with_reducible exact E9.out))))))
  refine wpQuiet_nil ?_
  intro wz hwz
  obtain ⟨vv, hv⟩ := hwz
  have bz : Below v17.heap.size v17 wz := by rw [hv]; exact HF1.out vv
  clear hv vv
  clear HF HF1 D xA0 xA1 xA2
  clear F U
  obtain ⟨v18, rfl⟩ : ∃ x, x = wz := ⟨_, rfl⟩
  have AW18 : Hid (Ab w v18) := AW17.out.call bz
  have RA18 := hid (Ab.heap bz RA17.out)
  have RB18 := hid (Ab.heap bz RB17.out)
  clear bz AW17 RA17 RB17
  go_wp2
  go_ret
  exact ⟨rfl, AW18.out⟩
end Go.Proofs.Ytgfggfkmfhonbaa
