/-
  The statement on vectors exchanged: the walk.
-/
import Derived.Test.YtgfggfkmfhonbaaNg
namespace Go.Proofs.Ytgfggfkmfhonbaa
open Go.RowKit Tf
attribute [local go_sem] run_bits run_from raw_feq raw_fne raw_flt raw_fgt run_neg run_store_float
theorem sbB_self {x : Nat} (hx : x < 18446744073709551616) (fx : mg x < 9218868437227405312) : sbB x x = 0 := by
  unfold sbB
  rw [addB_fin x _ hx (negB_lt' hx) fx (by rw [negB_mg hx]; exact fx), negB_sv hx, Int.add_right_neg, rn_zero]
  rfl
theorem sbB_zero {x : Nat} (hx : x < 18446744073709551616) (fx : mg x < 9218868437227405312) : sbB x 0 = canonB x := by
  have n0 : negB 0 = 9223372036854775808 := by decide
  unfold sbB
  rw [n0, addB_fin x _ hx (by decide) fx (by decide), show sv 9223372036854775808 = 0 by decide, Int.add_zero]
  have hN : isN x = false := by rw [isN_false]; omega
  unfold canonB
  rw [hN]
  simp only [Bool.false_eq_true, if_false]
  by_cases c : mg x = 0
  · rw [if_pos c]
    have : sv x = 0 := by unfold sv; rw [c, mv_zero]; simp
    rw [this, rn_zero]; rfl
  · rw [if_neg c]
    exact rn_sv false x hx (by omega) (by omega)
theorem sqB_cn {x : Nat} (hx : x < 18446744073709551616) : sqB (canonB (negB x)) = sqB x := by rw [sqB_canon (negB_lt' hx), sqB_neg hx]
theorem lnB_anti {x y z u v t : Nat} (hx : x < 18446744073709551616) (hy : y < 18446744073709551616) (hz : z < 18446744073709551616) (hu : u < 18446744073709551616) (hv : v < 18446744073709551616) (ht : t < 18446744073709551616) : lnB (sbB u x) (sbB v y) (sbB t z) = lnB (sbB x u) (sbB y v) (sbB z t) := by
  rw [sbB_anti hx hu, sbB_anti hy hv, sbB_anti hz ht]
  unfold lnB
  rw [sqB_cn (sbB_lt hx hu), sqB_cn (sbB_lt hy hv), sqB_cn (sbB_lt hz ht)]
theorem lnB_none : lnB 0 0 0 = 0 := by decide +kernel
/-- a float less itself -/
theorem sub_own {P : Program} (w : World) (x : Nat) (hx : x < 18446744073709551616) : (mg x < 9218868437227405312 ∧ ∀ t, (binOp .sub t (.float .f64 x) (.float .f64 x)).run P w = .ok (.float .f64 0) w) ∨ (∃ r, feq r 0 = false ∧ ∀ t, (binOp .sub t (.float .f64 x) (.float .f64 x)).run P w = .ok (.float .f64 r) w.drew) := by
  rcases three x with h | h | h
  · exact .inl ⟨h, fun t => run_float_arith w .sub t .f64 x x 0 (sub_self x hx h)⟩
  · exact .inr ⟨nanOf w x x, feq_nan _ _ (.inl (isN_nanOf _ _ _)), fun t => run_nan_sub w t x x (sub_inf_self x h)⟩
  · exact .inr ⟨nanOf w x x, feq_nan _ _ (.inl (isN_nanOf _ _ _)), fun t => run_nan_sub w t x x (sub_nan x x (.inl h))⟩
theorem feq00 : feq 0 0 = true := by decide
set_option maxHeartbeats 16000000 in
set_option maxRecDepth 100000 in
theorem vecOpposite_walk (x y z u v t : Nat) (w : World) (hx : x < 18446744073709551616) (hy : y < 18446744073709551616) (hz : z < 18446744073709551616) (hu : u < 18446744073709551616) (hv : v < 18446744073709551616) (ht : t < 18446744073709551616) :
    Calls Try.prog 5 #[.agg #[.float .f64 x, .float .f64 y, .float .f64 z], .agg #[.float .f64 u, .float .f64 v, .float .f64 t]] w fun e w' => e = .returned (.bool true) ∧ Below w.heap.size w w' := by
  have LV := hid (fun w => lives7_at w)
  have AG := hid (fun x y z w (hx : Hid (x < 18446744073709551616)) (hy : Hid (y < 18446744073709551616)) (hz : Hid (z < 18446744073709551616)) => against_at x y z w hx hy hz)
  have MI := hid (fun x y z u v t w (hx : Hid (x < 18446744073709551616)) (hy : Hid (y < 18446744073709551616)) (hz : Hid (z < 18446744073709551616)) (hu : Hid (u < 18446744073709551616)) (hv : Hid (v < 18446744073709551616)) (ht : Hid (t < 18446744073709551616)) => minus_at x y z u v t w hx hy hz hu hv ht)
  have CR := hid (fun x y z u v t w (hx : Hid (x < 18446744073709551616)) (hy : Hid (y < 18446744073709551616)) (hz : Hid (z < 18446744073709551616)) (hu : Hid (u < 18446744073709551616)) (hv : Hid (v < 18446744073709551616)) (ht : Hid (t < 18446744073709551616)) => cross_at x y z u v t w hx hy hz hu hv ht)
  have GA := hid (fun x y z u v t w (hx : Hid (x < 18446744073709551616)) (hy : Hid (y < 18446744073709551616)) (hz : Hid (z < 18446744073709551616)) (hu : Hid (u < 18446744073709551616)) (hv : Hid (v < 18446744073709551616)) (ht : Hid (t < 18446744073709551616)) => gap_at x y z u v t w hx hy hz hu hv ht)
  have LN := hid (fun x y z w (hx : Hid (x < 18446744073709551616)) (hy : Hid (y < 18446744073709551616)) (hz : Hid (z < 18446744073709551616)) => length_at x y z w hx hy hz)
  have AT := hid (fun x y z w => at_at x y z w)
  have CN := hid (fun x w (hx : Hid (x < 18446744073709551616)) => canon_b x w hx)
  have SA := hid (fun a b w (h : a = b) => same_of a b w h)
  have AL := hid (fun x y z p q r w (h : x = p ∧ y = q ∧ z = r) => alike_of x y z p q r w h)
  have Hc1 : Hid ((sbB (mlB y t) (mlB z v)) < 18446744073709551616) := sbB_lt (mlB_lt hy ht) (mlB_lt hz hv)
  have Hc2 : Hid ((sbB (mlB z u) (mlB x t)) < 18446744073709551616) := sbB_lt (mlB_lt hz hu) (mlB_lt hx ht)
  have Hc3 : Hid ((sbB (mlB x v) (mlB y u)) < 18446744073709551616) := sbB_lt (mlB_lt hx hv) (mlB_lt hy hu)
  have Hm1 : Hid (sbB x u < 18446744073709551616) := sbB_lt hx hu
  have Hm2 : Hid (sbB y v < 18446744073709551616) := sbB_lt hy hv
  have Hm3 : Hid (sbB z t < 18446744073709551616) := sbB_lt hz ht
  have H0 : Hid (0 < 18446744073709551616) := hid (by decide)
  have E1 : Hid (sbB u x = canonB (negB (sbB x u)) ∧ sbB v y = canonB (negB (sbB y v)) ∧ sbB t z = canonB (negB (sbB z t))) := ⟨sbB_anti hx hu, sbB_anti hy hv, sbB_anti hz ht⟩
  have E2 : Hid ((sbB (mlB v z) (mlB t y)) = canonB (negB (sbB (mlB y t) (mlB z v))) ∧ (sbB (mlB t x) (mlB u z)) = canonB (negB (sbB (mlB z u) (mlB x t))) ∧ (sbB (mlB u y) (mlB v x)) = canonB (negB (sbB (mlB x v) (mlB y u)))) := by
    rw [mlB_comm v z, mlB_comm t y, mlB_comm t x, mlB_comm u z, mlB_comm u y, mlB_comm v x]
    exact ⟨sbB_anti (mlB_lt hy ht) (mlB_lt hz hv), sbB_anti (mlB_lt hz hu) (mlB_lt hx ht), sbB_anti (mlB_lt hx hv) (mlB_lt hy hu)⟩
  have E3 : Hid (lnB (sbB u x) (sbB v y) (sbB t z) = lnB (sbB x u) (sbB y v) (sbB z t)) := lnB_anti hx hy hz hu hv ht
  have Hx := hid hx
  have Hy := hid hy
  have Hz := hid hz
  have Hu := hid hu
  have Hv := hid hv
  have Ht := hid ht
  have A0 := hid (bl2 w (.cells #[.float .f64 x, .float .f64 y, .float .f64 z] 24) (.cells #[.float .f64 u, .float .f64 v, .float .f64 t] 24))
  have R0 := hid (And.intro (heap_alloc2_old w (.cells #[.float .f64 x, .float .f64 y, .float .f64 z] 24) (.cells #[.float .f64 u, .float .f64 v, .float .f64 t] 24)) (heap_alloc2_new w (.cells #[.float .f64 x, .float .f64 y, .float .f64 z] 24) (.cells #[.float .f64 u, .float .f64 v, .float .f64 t] 24)))
  clear hx hy hz hu hv ht
  go_enter Try.func5, Try.ntmps5
  go_wp2_with fail
  refine (LV.out _).mono ?_
  rintro e v1 ⟨rfl, b1⟩
  have AW1 : Hid (Ab w v1) := Ab.call A0.out b1
  have RA1 := hid (Ab.heap b1 R0.out.1)
  have RB1 := hid (Ab.heap b1 R0.out.2)
  clear b1 A0 R0
  go_upto_region 3 with fail
  obtain ⟨U, F, hF1, hF2⟩ := cls v1
  have HF := hid hF2
  have HF1 := hid hF1
  have xA0 : ∀ vv, (F vv).cell? ⟨w.heap.size, 0, none⟩ = some (.float .f64 x) := fun vv => cell_of_row _ _ 0 _ _ _ ((hF1 vv).heap RA1.out)
  have xA1 : ∀ vv, (F vv).cell? ⟨w.heap.size, 1, none⟩ = some (.float .f64 y) := fun vv => cell_of_row _ _ 1 _ _ _ ((hF1 vv).heap RA1.out)
  have xA2 : ∀ vv, (F vv).cell? ⟨w.heap.size, 2, none⟩ = some (.float .f64 z) := fun vv => cell_of_row _ _ 2 _ _ _ ((hF1 vv).heap RA1.out)
  have xB0 : ∀ vv, (F vv).cell? ⟨w.heap.size + 1, 0, none⟩ = some (.float .f64 u) := fun vv => cell_of_row _ _ 0 _ _ _ ((hF1 vv).heap RB1.out)
  have xB1 : ∀ vv, (F vv).cell? ⟨w.heap.size + 1, 1, none⟩ = some (.float .f64 v) := fun vv => cell_of_row _ _ 1 _ _ _ ((hF1 vv).heap RB1.out)
  have xB2 : ∀ vv, (F vv).cell? ⟨w.heap.size + 1, 2, none⟩ = some (.float .f64 t) := fun vv => cell_of_row _ _ 2 _ _ _ ((hF1 vv).heap RB1.out)
  have D := HF.out _ (Ab.refl v1).drew
  clear hF1 hF2
  refine region_cls F (by kernel_rfl) (by kernel_rfl) D ?_
  repeat (go_big_quiet_step (first
    | (with_reducible rfl)
    | (go_at_call 10; exact calls_cls HF HF1 (MI.out _ _ _ _ _ _ _ (by assumption) (by assumption) (by assumption) (by assumption) (by assumption) (by assumption)))
    | (go_at_call 13; exact calls_cls HF HF1 (CR.out _ _ _ _ _ _ _ (by assumption) (by assumption) (by assumption) (by assumption) (by assumption) (by assumption)))
    | (go_at_call 21; exact calls_cls HF HF1 (AG.out _ _ _ _ (by assumption) (by assumption) (by assumption)))
    | (go_at_call 22; exact calls_cls HF HF1 (GA.out _ _ _ _ _ _ _ (by assumption) (by assumption) (by assumption) (by assumption) (by assumption) (by assumption)))
    | (go_at_call 11; exact calls_cls HF HF1 (AL.out _ _ _ _ _ _ _ (by first | (with_reducible exact E1.out) | (with_reducible exact E2.out))))
    | (go_at_call 14; exact calls_cls HF HF1 (SA.out _ _ _ (by first | (with_reducible exact E3.out))))))
  refine wpQuiet_nil ?_
  intro wz hwz
  obtain ⟨vv, hv⟩ := hwz
  have bz : Below v1.heap.size v1 wz := by rw [hv]; exact HF1.out vv
  clear hv vv
  clear HF HF1 D xA0 xA1 xA2 xB0 xB1 xB2
  clear F U
  obtain ⟨v2, rfl⟩ : ∃ x, x = wz := ⟨_, rfl⟩
  have AW2 : Hid (Ab w v2) := AW1.out.call bz
  have RA2 := hid (Ab.heap bz RA1.out)
  have RB2 := hid (Ab.heap bz RB1.out)
  clear bz AW1 RA1 RB1
  have F00 := feq00
  obtain ⟨-, xA0, xA1, xA2⟩ := rowfacts RA2.out
  rcases sub_own (P := Try.prog) v2 x Hx.out with ⟨fx, kx⟩ | ⟨rx, nx, kx⟩
  case inr =>
    go_wp2
    go_ret
    exact ⟨rfl, Ab.drew AW2.out⟩
  case inl =>
    rcases sub_own (P := Try.prog) v2 y Hy.out with ⟨fy, ky⟩ | ⟨ry, ny, ky⟩
    case inr =>
      go_wp2
      go_ret
      exact ⟨rfl, Ab.drew AW2.out⟩
    case inl =>
      rcases sub_own (P := Try.prog) v2 z Hz.out with ⟨fz, kz⟩ | ⟨rz, nz, kz⟩
      case inr =>
        go_wp2
        go_ret
        exact ⟨rfl, Ab.drew AW2.out⟩
      case inl =>
        have E4 : Hid (sbB x x = 0 ∧ sbB y y = 0 ∧ sbB z z = 0) := ⟨sbB_self Hx.out fx, sbB_self Hy.out fy, sbB_self Hz.out fz⟩
        have E5 : Hid (lnB (sbB x x) (sbB y y) (sbB z z) = 0) := by rw [E4.out.1, E4.out.2.1, E4.out.2.2]; exact lnB_none
        have E6 : Hid (sbB x 0 = canonB x ∧ sbB y 0 = canonB y ∧ sbB z 0 = canonB z) := ⟨sbB_zero Hx.out fx, sbB_zero Hy.out fy, sbB_zero Hz.out fz⟩
        have E7 : Hid (lnB (sbB x 0) (sbB y 0) (sbB z 0) = lnB x y z) := by show lnB _ _ _ = _; rw [E6.out.1, E6.out.2.1, E6.out.2.2]; unfold lnB; rw [sqB_canon Hx.out, sqB_canon Hy.out, sqB_canon Hz.out]
        clear fx fy fz
        go_wp2_with fail
        refine Calls.mono (MI.out _ _ _ _ _ _ _ (by assumption) (by assumption) (by assumption) (by assumption) (by assumption) (by assumption)) ?_
        rintro e v3 ⟨rfl, b3⟩
        clear kx ky kz F00
        clear xA0 xA1 xA2
        have AW3 : Hid (Ab w v3) := AW2.out.call b3
        have RA3 := hid (Ab.heap b3 RA2.out)
        have RB3 := hid (Ab.heap b3 RB2.out)
        clear b3 AW2 RA2 RB2
        go_wp2_with fail
        refine Calls.mono (AT.out _ _ _ _) ?_
        rintro e v4 ⟨rfl, b4⟩
        have AW4 : Hid (Ab w v4) := AW3.out.call b4
        have RA4 := hid (Ab.heap b4 RA3.out)
        have RB4 := hid (Ab.heap b4 RB3.out)
        clear b4 AW3 RA3 RB3
        go_wp2_with fail
        refine Calls.mono (AL.out _ _ _ _ _ _ _ (by first | (with_reducible exact E4.out))) ?_
        rintro e v5 ⟨rfl, b5⟩
        have AW5 : Hid (Ab w v5) := AW4.out.call b5
        have RA5 := hid (Ab.heap b5 RA4.out)
        have RB5 := hid (Ab.heap b5 RB4.out)
        clear b5 AW4 RA4 RB4
        obtain ⟨-, xA0, xA1, xA2⟩ := rowfacts RA5.out
        go_wp2_with fail
        refine Calls.mono (GA.out _ _ _ _ _ _ _ (by assumption) (by assumption) (by assumption) (by assumption) (by assumption) (by assumption)) ?_
        rintro e v6 ⟨rfl, b6⟩
        clear xA0 xA1 xA2
        have AW6 : Hid (Ab w v6) := AW5.out.call b6
        have RA6 := hid (Ab.heap b6 RA5.out)
        have RB6 := hid (Ab.heap b6 RB5.out)
        clear b6 AW5 RA5 RB5
        go_wp2_with fail
        refine Calls.mono (SA.out _ _ _ (by first | (with_reducible exact E5.out))) ?_
        rintro e v7 ⟨rfl, b7⟩
        have AW7 : Hid (Ab w v7) := AW6.out.call b7
        have RA7 := hid (Ab.heap b7 RA6.out)
        have RB7 := hid (Ab.heap b7 RB6.out)
        clear b7 AW6 RA6 RB6
        go_upto_region 9 with fail
        obtain ⟨U, F, hF1, hF2⟩ := cls v7
        have HF := hid hF2
        have HF1 := hid hF1
        have xA0 : ∀ vv, (F vv).cell? ⟨w.heap.size, 0, none⟩ = some (.float .f64 x) := fun vv => cell_of_row _ _ 0 _ _ _ ((hF1 vv).heap RA7.out)
        have xA1 : ∀ vv, (F vv).cell? ⟨w.heap.size, 1, none⟩ = some (.float .f64 y) := fun vv => cell_of_row _ _ 1 _ _ _ ((hF1 vv).heap RA7.out)
        have xA2 : ∀ vv, (F vv).cell? ⟨w.heap.size, 2, none⟩ = some (.float .f64 z) := fun vv => cell_of_row _ _ 2 _ _ _ ((hF1 vv).heap RA7.out)
        have D := HF.out _ (Ab.refl v7).drew
        clear hF1 hF2
        refine region_cls F (by kernel_rfl) (by kernel_rfl) D ?_
        repeat (go_big_quiet_step (first
          | (with_reducible rfl)
          | (go_at_call 9; exact calls_cls HF HF1 (AT.out _ _ _ _))
          | (go_at_call 10; exact calls_cls HF HF1 (MI.out _ _ _ _ _ _ _ (by assumption) (by assumption) (by assumption) (by assumption) (by assumption) (by assumption)))
          | (go_at_call 12; exact calls_cls HF HF1 (CN.out _ _ (by assumption)))
          | (go_at_call 22; exact calls_cls HF HF1 (GA.out _ _ _ _ _ _ _ (by assumption) (by assumption) (by assumption) (by assumption) (by assumption) (by assumption)))
          | (go_at_call 15; exact calls_cls HF HF1 (LN.out _ _ _ _ (by assumption) (by assumption) (by assumption)))
          | (go_at_call 11; exact calls_cls HF HF1 (AL.out _ _ _ _ _ _ _ (by first | (with_reducible exact E6.out))))
          | (go_at_call 14; exact calls_cls HF HF1 (SA.out _ _ _ (by first | (with_reducible exact E7.out))))))
        refine wpQuiet_nil ?_
        intro wz hwz
        obtain ⟨vv, hv⟩ := hwz
        have bz : Below v7.heap.size v7 wz := by rw [hv]; exact HF1.out vv
        clear hv vv
        clear HF HF1 D xA0 xA1 xA2
        clear F U
        obtain ⟨v8, rfl⟩ : ∃ x, x = wz := ⟨_, rfl⟩
        have AW8 : Hid (Ab w v8) := AW7.out.call bz
        have RA8 := hid (Ab.heap bz RA7.out)
        have RB8 := hid (Ab.heap bz RB7.out)
        clear bz AW7 RA7 RB7
        go_wp2
        go_ret
        exact ⟨rfl, AW8.out⟩
end Go.Proofs.Ytgfggfkmfhonbaa
