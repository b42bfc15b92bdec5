/-
  Signs and bounds of slopes: the statement's walk.
-/
import Derived.Test.YtgbaaafikphafaaLi
namespace Go.Proofs.Ytgbaaafikphafaa
open Go.RowKit Tf
attribute [local go_sem] run_bits run_from raw_feq raw_fne raw_flt raw_fgt run_neg
set_option maxHeartbeats 8000000 in
theorem bounds_z (a b : Nat) (w : World) (HP : Hid ((ps a && ps b) = false)) (HN : Hid ((ns a && ns b) = false)) (HA : Hid (a < 18446744073709551616)) (HB : Hid (b < 18446744073709551616)) : Calls Try.prog 4 #[.float .f64 a, .float .f64 b] w fun e w' => e = .returned (.bool true) ∧ Below w.heap.size w w' := by
  have SL : ∀ (k : Int) (w : World), Calls Try.prog 7 #[.int .i64 k, .float .f64 a, .float .f64 b] w fun e w' => e = .returned (.float .f64 0) ∧ Below w.heap.size w w' := fun k w => by
    have h := slope_at k a b w HA.out HB.out
    rwa [slp_z HP.out HN.out] at h
  have SL1 := hid (SL 1)
  have SL2 := hid (SL 2)
  have SL3 := hid (SL 3)
  clear SL
  have S0 : Hid (∀ w, Calls Try.prog 8 #[.float .f64 0, .float .f64 0] w fun e w' => e = .returned (.bool true) ∧ w' = w) := fun w => same10_yes 0 0 w rfl
  have LV := hid (lives10_at w)
  have f0 : feq 0 0 = true := by decide
  have pp : (fgt a 0 && fgt b 0) = false := by rw [fgt_ps HA.out, fgt_ps HB.out]; exact HP.out
  have nn : (flt a 0 && flt b 0) = false := by rw [flt_ns HA.out, flt_ns HB.out]; exact HN.out
  have PP := hid pp
  have NN := hid nn
  clear pp nn HA HB HP HN
  go_enter Try.func4, Try.ntmps4
  go_wp2_with fail
  refine LV.out.mono ?_
  rintro e w0 ⟨rfl, b0⟩
  have B0 : Hid (Ab w w0) := b0
  clear b0 LV
  go_wp2_with fail
  refine (SL1.out _).mono ?_
  rintro e w1 ⟨rfl, b1⟩
  have B1 : Hid (Ab w w1) := Ab.trans B0.out b1
  clear b1 B0 SL1
  go_wp2_with fail
  refine (SL2.out _).mono ?_
  rintro e w2 ⟨rfl, b2⟩
  have B2 : Hid (Ab w w2) := Ab.trans B1.out b2
  clear b2 B1 SL2
  go_wp2_with fail
  refine (SL3.out _).mono ?_
  rintro e w3 ⟨rfl, b3⟩
  have B3 : Hid (Ab w w3) := Ab.trans B2.out b3
  clear b3 B2 SL3
  go_wp2
  have AW : Hid (Ab w (w3.alloc (.cells #[.float .f64 0, .float .f64 0, .float .f64 0] 22))) := Ab.alloc B3.out _
  clear B3
  obtain ⟨⟨o0, o1, o2⟩, o3, o4, o5⟩ := rowfacts (heap_alloc_new w3 (.cells #[.float .f64 0, .float .f64 0, .float .f64 0] 22))
  go_loopw [30] (fun iv wr => ∃ k : Nat, k ≤ 3 ∧ iv = .int .i64 (k : Nat) ∧ wr = w3.alloc (.cells #[.float .f64 0, .float .f64 0, .float .f64 0] 22)) (fun iv _ => 3 - (intOf iv).toNat)
  case atStart => exact ⟨0, by omega, rfl, rfl⟩
  case round =>
    obtain ⟨k, hk, rfl, rfl⟩ := hrel
    have hk4 : k = 0 ∨ k = 1 ∨ k = 2 ∨ k = 3 := by omega
    clear hk
    rcases hk4 with rfl | rfl | rfl | rfl
    · go_wp2_with fail
      refine (S0.out _).mono ?_
      rintro e w' ⟨rfl, hw⟩
      have hw2 := hw.symm
      subst hw2
      go_wp2
      go_roundw
      case rel => exact ⟨1, by omega, by simp, by simp⟩
      case measure => simp [intOf]
    · go_wp2_with fail
      refine (S0.out _).mono ?_
      rintro e w' ⟨rfl, hw⟩
      have hw2 := hw.symm
      subst hw2
      go_wp2
      go_roundw
      case rel => exact ⟨2, by omega, by simp, by simp⟩
      case measure => simp [intOf]
    · go_wp2_with fail
      refine (S0.out _).mono ?_
      rintro e w' ⟨rfl, hw⟩
      have hw2 := hw.symm
      subst hw2
      go_wp2
      go_roundw
      case rel => exact ⟨3, by omega, by simp, by simp⟩
      case measure => simp [intOf]
    · have pp := PP.out
      have nn := NN.out
      clear PP NN
      cases g1 : fgt a 0 <;> cases g2 : flt a 0 <;> rw [g1] at pp <;> rw [g2] at nn <;> (try rw [Bool.true_and] at pp) <;> (try rw [Bool.true_and] at nn) <;> (
        go_wp2_with fail
        refine (S0.out _).mono ?_
        rintro e w' ⟨rfl, hw⟩
        have hw2 := hw.symm
        subst hw2
        go_wp2_with fail
        refine (S0.out _).mono ?_
        rintro e w' ⟨rfl, hw⟩
        have hw2 := hw.symm
        subst hw2
        go_wp2_with fail
        refine (S0.out _).mono ?_
        rintro e w' ⟨rfl, hw⟩
        have hw2 := hw.symm
        subst hw2
        go_wp2
        go_ret
        exact ⟨rfl, AW.out⟩)
set_option maxHeartbeats 8000000 in
theorem bounds_u (a b m s l am bm mm sm A2 B2 H M2 : Nat) (w : World) (ga : fgt a 0 = true) (gb : fgt b 0 = true) (na : flt a 0 = false) (m0 : flt m 0 = false) (s0 : flt s 0 = false) (l0 : flt l 0 = false)
    (SL1 : Hid (∀ w, Calls Try.prog 7 #[.int .i64 1, .float .f64 a, .float .f64 b] w fun e w' => e = .returned (.float .f64 m) ∧ Below w.heap.size w w'))
    (SL2 : Hid (∀ w, Calls Try.prog 7 #[.int .i64 2, .float .f64 a, .float .f64 b] w fun e w' => e = .returned (.float .f64 s) ∧ Below w.heap.size w w'))
    (SL3 : Hid (∀ w, Calls Try.prog 7 #[.int .i64 3, .float .f64 a, .float .f64 b] w fun e w' => e = .returned (.float .f64 l) ∧ Below w.heap.size w w'))
    (e1 : feq m m = true) (e2 : feq s s = true) (e3 : feq l l = true) (Z1 : Hid (feq m 0 = true → m = 0)) (Z2 : Hid (feq s 0 = true → s = 0)) (Z3 : Hid (feq l 0 = true → l = 0))
    (eq : feq m a = true ∨ (feq m a = false ∧ feq m b = true))
    (MA : Hid (∀ w, Calls Try.prog 11 #[.float .f64 a] w fun e w' => e = .returned (.float .f64 am) ∧ w' = w))
    (MB : Hid (∀ w, Calls Try.prog 11 #[.float .f64 b] w fun e w' => e = .returned (.float .f64 bm) ∧ w' = w))
    (MM : Hid (∀ w, Calls Try.prog 11 #[.float .f64 m] w fun e w' => e = .returned (.float .f64 mm) ∧ w' = w))
    (MS : Hid (∀ w, Calls Try.prog 11 #[.float .f64 s] w fun e w' => e = .returned (.float .f64 sm) ∧ w' = w))
    (k1 : fgt mm am = false) (k2 : fgt mm bm = false)
    (FL : Hid (∀ w, Calls Try.prog 10 #[.float .f64 l] w fun e w' => e = .returned (.bool true) ∧ ∃ n, w' = w.drewN n))
    (RA : ∀ w t, (binOp .mul t (.float .f64 4611686018427387904) (.float .f64 a)).run Try.prog w = .ok (.float .f64 A2) w)
    (RB : ∀ w t, (binOp .mul t (.float .f64 4611686018427387904) (.float .f64 b)).run Try.prog w = .ok (.float .f64 B2) w)
    (RM : ∀ w t, (binOp .mul t (.float .f64 4611686018427387904) (.float .f64 mm)).run Try.prog w = .ok (.float .f64 M2) w)
    (FA : Hid (∀ w, Calls Try.prog 10 #[.float .f64 A2] w fun e w' => e = .returned (.bool (fin A2)) ∧ ∃ n, w' = w.drewN n))
    (FB : Hid (∀ w, Calls Try.prog 10 #[.float .f64 B2] w fun e w' => e = .returned (.bool (fin B2)) ∧ ∃ n, w' = w.drewN n))
    (MX : Hid (∀ w, Calls Try.prog 12 #[.float .f64 am, .float .f64 bm] w fun e w' => e = .returned (.float .f64 H) ∧ w' = w))
    (q1 : (fgt sm mm || feq sm mm) = true) (q2 : (flt sm M2 || feq sm M2) = true) (q3 : (flt sm H || feq sm H) = true) :
    Calls Try.prog 4 #[.float .f64 a, .float .f64 b] w fun e w' => e = .returned (.bool true) ∧ Below w.heap.size w w' := by
  have Zm : Hid (feq m 0 = true → ∀ w, Calls Try.prog 8 #[.float .f64 m, .float .f64 0] w fun e w' => e = .returned (.bool true) ∧ w' = w) := fun h w => same10_yes m 0 w (Z1.out h)
  have Zs : Hid (feq s 0 = true → ∀ w, Calls Try.prog 8 #[.float .f64 s, .float .f64 0] w fun e w' => e = .returned (.bool true) ∧ w' = w) := fun h w => same10_yes s 0 w (Z2.out h)
  have Zl : Hid (feq l 0 = true → ∀ w, Calls Try.prog 8 #[.float .f64 l, .float .f64 0] w fun e w' => e = .returned (.bool true) ∧ w' = w) := fun h w => same10_yes l 0 w (Z3.out h)
  clear Z1 Z2 Z3
  have LV := hid (lives10_at w)
  go_enter Try.func4, Try.ntmps4
  go_wp2_with fail
  refine LV.out.mono ?_
  rintro e w0 ⟨rfl, b0⟩
  have B0 : Hid (Ab w w0) := b0
  clear b0 LV
  go_wp2_with fail
  refine (SL1.out _).mono ?_
  rintro e w1 ⟨rfl, b1⟩
  have B1 : Hid (Ab w w1) := Ab.trans B0.out b1
  clear b1 B0 SL1
  go_wp2_with fail
  refine (SL2.out _).mono ?_
  rintro e w2 ⟨rfl, b2⟩
  have B2 : Hid (Ab w w2) := Ab.trans B1.out b2
  clear b2 B1 SL2
  go_wp2_with fail
  refine (SL3.out _).mono ?_
  rintro e w3 ⟨rfl, b3⟩
  have B3 : Hid (Ab w w3) := Ab.trans B2.out b3
  clear b3 B2 SL3
  go_wp2
  have AW : Hid (Ab w (w3.alloc (.cells #[.float .f64 m, .float .f64 s, .float .f64 l] 22))) := Ab.alloc B3.out _
  clear B3
  obtain ⟨⟨o0, o1, o2⟩, o3, o4, o5⟩ := rowfacts (heap_alloc_new w3 (.cells #[.float .f64 m, .float .f64 s, .float .f64 l] 22))
  go_loopw [30] (fun iv wr => ∃ k : Nat, k ≤ 3 ∧ iv = .int .i64 (k : Nat) ∧ wr = w3.alloc (.cells #[.float .f64 m, .float .f64 s, .float .f64 l] 22)) (fun iv _ => 3 - (intOf iv).toNat)
  case atStart => exact ⟨0, by omega, rfl, rfl⟩
  case round =>
    obtain ⟨k, hk, rfl, rfl⟩ := hrel
    have hk4 : k = 0 ∨ k = 1 ∨ k = 2 ∨ k = 3 := by omega
    clear hk
    rcases hk4 with rfl | rfl | rfl | rfl
    · cases z : feq m 0
      · go_wp2
        go_roundw
        case rel => exact ⟨1, by omega, by simp, by simp⟩
        case measure => simp [intOf]
      · have SZ := hid (Zm.out z)
        go_wp2_with fail
        refine (SZ.out _).mono ?_
        rintro e w' ⟨rfl, hw⟩
        have hw2 := hw.symm
        subst hw2
        go_wp2
        go_roundw
        case rel => exact ⟨1, by omega, by simp, by simp⟩
        case measure => simp [intOf]
    · cases z : feq s 0
      · go_wp2
        go_roundw
        case rel => exact ⟨2, by omega, by simp, by simp⟩
        case measure => simp [intOf]
      · have SZ := hid (Zs.out z)
        go_wp2_with fail
        refine (SZ.out _).mono ?_
        rintro e w' ⟨rfl, hw⟩
        have hw2 := hw.symm
        subst hw2
        go_wp2
        go_roundw
        case rel => exact ⟨2, by omega, by simp, by simp⟩
        case measure => simp [intOf]
    · cases z : feq l 0
      · go_wp2
        go_roundw
        case rel => exact ⟨3, by omega, by simp, by simp⟩
        case measure => simp [intOf]
      · have SZ := hid (Zl.out z)
        go_wp2_with fail
        refine (SZ.out _).mono ?_
        rintro e w' ⟨rfl, hw⟩
        have hw2 := hw.symm
        subst hw2
        go_wp2
        go_roundw
        case rel => exact ⟨3, by omega, by simp, by simp⟩
        case measure => simp [intOf]
    · clear Zm Zs Zl
      rcases eq with eq | ⟨eq, eq2⟩ <;> (
        go_wp2_with fail
        refine (MM.out _).mono ?_
        rintro e w' ⟨rfl, hw⟩
        have hw2 := hw.symm
        subst hw2
        go_wp2_with fail
        refine (MA.out _).mono ?_
        rintro e w' ⟨rfl, hw⟩
        have hw2 := hw.symm
        subst hw2
        go_wp2_with fail
        refine (MM.out _).mono ?_
        rintro e w' ⟨rfl, hw⟩
        have hw2 := hw.symm
        subst hw2
        go_wp2_with fail
        refine (MB.out _).mono ?_
        rintro e w' ⟨rfl, hw⟩
        have hw2 := hw.symm
        subst hw2
        go_wp2_with fail
        refine (FL.out _).mono ?_
        rintro e w' ⟨rfl, n1, rfl⟩
        have FA2 := FA.out
        cases fa : fin A2 <;> rw [fa] at FA2
        · have FA3 := hid FA2
          clear FA2 fa FA
          go_wp2_with fail
          refine (FA3.out _).mono ?_
          rintro e w' ⟨rfl, n2, rfl⟩
          go_wp2
          go_ret
          exact ⟨rfl, Ab.drewN AW.out _⟩
        · have FA3 := hid FA2
          clear FA2 fa FA
          go_wp2_with fail
          refine (FA3.out _).mono ?_
          rintro e w' ⟨rfl, n2, rfl⟩
          have FB2 := FB.out
          cases fb : fin B2 <;> rw [fb] at FB2
          · have FB3 := hid FB2
            clear FB2 fb FB
            go_wp2_with fail
            refine (FB3.out _).mono ?_
            rintro e w' ⟨rfl, n3, rfl⟩
            go_wp2
            go_ret
            exact ⟨rfl, Ab.drewN AW.out _⟩
          · have FB3 := hid FB2
            clear FB2 fb FB
            go_wp2_with fail
            refine (FB3.out _).mono ?_
            rintro e w' ⟨rfl, n3, rfl⟩
            go_wp2_with fail
            refine (MM.out _).mono ?_
            rintro e w' ⟨rfl, hw⟩
            have hw2 := hw.symm
            subst hw2
            go_wp2_with fail
            refine (MA.out _).mono ?_
            rintro e w' ⟨rfl, hw⟩
            have hw2 := hw.symm
            subst hw2
            go_wp2_with fail
            refine (MB.out _).mono ?_
            rintro e w' ⟨rfl, hw⟩
            have hw2 := hw.symm
            subst hw2
            go_wp2_with fail
            refine (MX.out _).mono ?_
            rintro e w' ⟨rfl, hw⟩
            have hw2 := hw.symm
            subst hw2
            go_wp2_with fail
            refine (MS.out _).mono ?_
            rintro e w' ⟨rfl, hw⟩
            have hw2 := hw.symm
            subst hw2
            go_wp2_with fail
            refine (MS.out _).mono ?_
            rintro e w' ⟨rfl, hw⟩
            have hw2 := hw.symm
            subst hw2
            go_wp2_with fail
            refine (MS.out _).mono ?_
            rintro e w' ⟨rfl, hw⟩
            have hw2 := hw.symm
            subst hw2
            go_wp2
            go_ret
            exact ⟨rfl, Ab.drewN AW.out _⟩)
set_option maxHeartbeats 8000000 in
theorem bounds_d (a b m s l am bm mm sm A2 B2 H M2 : Nat) (w : World) (na : fgt a 0 = false) (ga : flt a 0 = true) (gb : flt b 0 = true) (m0 : fgt m 0 = false) (s0 : fgt s 0 = false) (l0 : fgt l 0 = false)
    (SL1 : Hid (∀ w, Calls Try.prog 7 #[.int .i64 1, .float .f64 a, .float .f64 b] w fun e w' => e = .returned (.float .f64 m) ∧ Below w.heap.size w w'))
    (SL2 : Hid (∀ w, Calls Try.prog 7 #[.int .i64 2, .float .f64 a, .float .f64 b] w fun e w' => e = .returned (.float .f64 s) ∧ Below w.heap.size w w'))
    (SL3 : Hid (∀ w, Calls Try.prog 7 #[.int .i64 3, .float .f64 a, .float .f64 b] w fun e w' => e = .returned (.float .f64 l) ∧ Below w.heap.size w w'))
    (e1 : feq m m = true) (e2 : feq s s = true) (e3 : feq l l = true) (Z1 : Hid (feq m 0 = true → m = 0)) (Z2 : Hid (feq s 0 = true → s = 0)) (Z3 : Hid (feq l 0 = true → l = 0))
    (eq : feq m a = true ∨ (feq m a = false ∧ feq m b = true))
    (MA : Hid (∀ w, Calls Try.prog 11 #[.float .f64 a] w fun e w' => e = .returned (.float .f64 am) ∧ w' = w))
    (MB : Hid (∀ w, Calls Try.prog 11 #[.float .f64 b] w fun e w' => e = .returned (.float .f64 bm) ∧ w' = w))
    (MM : Hid (∀ w, Calls Try.prog 11 #[.float .f64 m] w fun e w' => e = .returned (.float .f64 mm) ∧ w' = w))
    (MS : Hid (∀ w, Calls Try.prog 11 #[.float .f64 s] w fun e w' => e = .returned (.float .f64 sm) ∧ w' = w))
    (k1 : fgt mm am = false) (k2 : fgt mm bm = false)
    (FL : Hid (∀ w, Calls Try.prog 10 #[.float .f64 l] w fun e w' => e = .returned (.bool true) ∧ ∃ n, w' = w.drewN n))
    (RA : ∀ w t, (binOp .mul t (.float .f64 4611686018427387904) (.float .f64 a)).run Try.prog w = .ok (.float .f64 A2) w)
    (RB : ∀ w t, (binOp .mul t (.float .f64 4611686018427387904) (.float .f64 b)).run Try.prog w = .ok (.float .f64 B2) w)
    (RM : ∀ w t, (binOp .mul t (.float .f64 4611686018427387904) (.float .f64 mm)).run Try.prog w = .ok (.float .f64 M2) w)
    (FA : Hid (∀ w, Calls Try.prog 10 #[.float .f64 A2] w fun e w' => e = .returned (.bool (fin A2)) ∧ ∃ n, w' = w.drewN n))
    (FB : Hid (∀ w, Calls Try.prog 10 #[.float .f64 B2] w fun e w' => e = .returned (.bool (fin B2)) ∧ ∃ n, w' = w.drewN n))
    (MX : Hid (∀ w, Calls Try.prog 12 #[.float .f64 am, .float .f64 bm] w fun e w' => e = .returned (.float .f64 H) ∧ w' = w))
    (q1 : (fgt sm mm || feq sm mm) = true) (q2 : (flt sm M2 || feq sm M2) = true) (q3 : (flt sm H || feq sm H) = true) :
    Calls Try.prog 4 #[.float .f64 a, .float .f64 b] w fun e w' => e = .returned (.bool true) ∧ Below w.heap.size w w' := by
  have Zm : Hid (feq m 0 = true → ∀ w, Calls Try.prog 8 #[.float .f64 m, .float .f64 0] w fun e w' => e = .returned (.bool true) ∧ w' = w) := fun h w => same10_yes m 0 w (Z1.out h)
  have Zs : Hid (feq s 0 = true → ∀ w, Calls Try.prog 8 #[.float .f64 s, .float .f64 0] w fun e w' => e = .returned (.bool true) ∧ w' = w) := fun h w => same10_yes s 0 w (Z2.out h)
  have Zl : Hid (feq l 0 = true → ∀ w, Calls Try.prog 8 #[.float .f64 l, .float .f64 0] w fun e w' => e = .returned (.bool true) ∧ w' = w) := fun h w => same10_yes l 0 w (Z3.out h)
  clear Z1 Z2 Z3
  have LV := hid (lives10_at w)
  go_enter Try.func4, Try.ntmps4
  go_wp2_with fail
  refine LV.out.mono ?_
  rintro e w0 ⟨rfl, b0⟩
  have B0 : Hid (Ab w w0) := b0
  clear b0 LV
  go_wp2_with fail
  refine (SL1.out _).mono ?_
  rintro e w1 ⟨rfl, b1⟩
  have B1 : Hid (Ab w w1) := Ab.trans B0.out b1
  clear b1 B0 SL1
  go_wp2_with fail
  refine (SL2.out _).mono ?_
  rintro e w2 ⟨rfl, b2⟩
  have B2 : Hid (Ab w w2) := Ab.trans B1.out b2
  clear b2 B1 SL2
  go_wp2_with fail
  refine (SL3.out _).mono ?_
  rintro e w3 ⟨rfl, b3⟩
  have B3 : Hid (Ab w w3) := Ab.trans B2.out b3
  clear b3 B2 SL3
  go_wp2
  have AW : Hid (Ab w (w3.alloc (.cells #[.float .f64 m, .float .f64 s, .float .f64 l] 22))) := Ab.alloc B3.out _
  clear B3
  obtain ⟨⟨o0, o1, o2⟩, o3, o4, o5⟩ := rowfacts (heap_alloc_new w3 (.cells #[.float .f64 m, .float .f64 s, .float .f64 l] 22))
  go_loopw [30] (fun iv wr => ∃ k : Nat, k ≤ 3 ∧ iv = .int .i64 (k : Nat) ∧ wr = w3.alloc (.cells #[.float .f64 m, .float .f64 s, .float .f64 l] 22)) (fun iv _ => 3 - (intOf iv).toNat)
  case atStart => exact ⟨0, by omega, rfl, rfl⟩
  case round =>
    obtain ⟨k, hk, rfl, rfl⟩ := hrel
    have hk4 : k = 0 ∨ k = 1 ∨ k = 2 ∨ k = 3 := by omega
    clear hk
    rcases hk4 with rfl | rfl | rfl | rfl
    · cases z : feq m 0
      · go_wp2
        go_roundw
        case rel => exact ⟨1, by omega, by simp, by simp⟩
        case measure => simp [intOf]
      · have SZ := hid (Zm.out z)
        go_wp2_with fail
        refine (SZ.out _).mono ?_
        rintro e w' ⟨rfl, hw⟩
        have hw2 := hw.symm
        subst hw2
        go_wp2
        go_roundw
        case rel => exact ⟨1, by omega, by simp, by simp⟩
        case measure => simp [intOf]
    · cases z : feq s 0
      · go_wp2
        go_roundw
        case rel => exact ⟨2, by omega, by simp, by simp⟩
        case measure => simp [intOf]
      · have SZ := hid (Zs.out z)
        go_wp2_with fail
        refine (SZ.out _).mono ?_
        rintro e w' ⟨rfl, hw⟩
        have hw2 := hw.symm
        subst hw2
        go_wp2
        go_roundw
        case rel => exact ⟨2, by omega, by simp, by simp⟩
        case measure => simp [intOf]
    · cases z : feq l 0
      · go_wp2
        go_roundw
        case rel => exact ⟨3, by omega, by simp, by simp⟩
        case measure => simp [intOf]
      · have SZ := hid (Zl.out z)
        go_wp2_with fail
        refine (SZ.out _).mono ?_
        rintro e w' ⟨rfl, hw⟩
        have hw2 := hw.symm
        subst hw2
        go_wp2
        go_roundw
        case rel => exact ⟨3, by omega, by simp, by simp⟩
        case measure => simp [intOf]
    · clear Zm Zs Zl
      rcases eq with eq | ⟨eq, eq2⟩ <;> (
        go_wp2_with fail
        refine (MM.out _).mono ?_
        rintro e w' ⟨rfl, hw⟩
        have hw2 := hw.symm
        subst hw2
        go_wp2_with fail
        refine (MA.out _).mono ?_
        rintro e w' ⟨rfl, hw⟩
        have hw2 := hw.symm
        subst hw2
        go_wp2_with fail
        refine (MM.out _).mono ?_
        rintro e w' ⟨rfl, hw⟩
        have hw2 := hw.symm
        subst hw2
        go_wp2_with fail
        refine (MB.out _).mono ?_
        rintro e w' ⟨rfl, hw⟩
        have hw2 := hw.symm
        subst hw2
        go_wp2_with fail
        refine (FL.out _).mono ?_
        rintro e w' ⟨rfl, n1, rfl⟩
        have FA2 := FA.out
        cases fa : fin A2 <;> rw [fa] at FA2
        · have FA3 := hid FA2
          clear FA2 fa FA
          go_wp2_with fail
          refine (FA3.out _).mono ?_
          rintro e w' ⟨rfl, n2, rfl⟩
          go_wp2
          go_ret
          exact ⟨rfl, Ab.drewN AW.out _⟩
        · have FA3 := hid FA2
          clear FA2 fa FA
          go_wp2_with fail
          refine (FA3.out _).mono ?_
          rintro e w' ⟨rfl, n2, rfl⟩
          have FB2 := FB.out
          cases fb : fin B2 <;> rw [fb] at FB2
          · have FB3 := hid FB2
            clear FB2 fb FB
            go_wp2_with fail
            refine (FB3.out _).mono ?_
            rintro e w' ⟨rfl, n3, rfl⟩
            go_wp2
            go_ret
            exact ⟨rfl, Ab.drewN AW.out _⟩
          · have FB3 := hid FB2
            clear FB2 fb FB
            go_wp2_with fail
            refine (FB3.out _).mono ?_
            rintro e w' ⟨rfl, n3, rfl⟩
            go_wp2_with fail
            refine (MM.out _).mono ?_
            rintro e w' ⟨rfl, hw⟩
            have hw2 := hw.symm
            subst hw2
            go_wp2_with fail
            refine (MA.out _).mono ?_
            rintro e w' ⟨rfl, hw⟩
            have hw2 := hw.symm
            subst hw2
            go_wp2_with fail
            refine (MB.out _).mono ?_
            rintro e w' ⟨rfl, hw⟩
            have hw2 := hw.symm
            subst hw2
            go_wp2_with fail
            refine (MX.out _).mono ?_
            rintro e w' ⟨rfl, hw⟩
            have hw2 := hw.symm
            subst hw2
            go_wp2_with fail
            refine (MS.out _).mono ?_
            rintro e w' ⟨rfl, hw⟩
            have hw2 := hw.symm
            subst hw2
            go_wp2_with fail
            refine (MS.out _).mono ?_
            rintro e w' ⟨rfl, hw⟩
            have hw2 := hw.symm
            subst hw2
            go_wp2_with fail
            refine (MS.out _).mono ?_
            rintro e w' ⟨rfl, hw⟩
            have hw2 := hw.symm
            subst hw2
            go_wp2
            go_ret
            exact ⟨rfl, Ab.drewN AW.out _⟩)
end Go.Proofs.Ytgbaaafikphafaa
