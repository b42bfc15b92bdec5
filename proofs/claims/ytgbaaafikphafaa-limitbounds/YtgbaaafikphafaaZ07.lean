/-
  Some of the texts of this proof, one behind the other.
-/
import Derived.Test.YtgbaaafikphafaaZ06
/-
  Signs and bounds of slopes: the statement's walk.
-/
namespace Go.Proofs.Ytgbaaafikphafaa
open Go.RowKit Tf
attribute [local go_sem] run_bits run_from raw_feq raw_fne raw_flt raw_fgt run_neg
set_option maxHeartbeats 8000000 in
theorem bounds_z (a b : Nat) (w : World) (HP : Hid ((ps a && ps b) = false)) (HN : Hid ((ns a && ns b) = false)) (HA : Hid (a < 18446744073709551616)) (HB : Hid (b < 18446744073709551616)) : Calls Try.prog 4 #[.float .f64 a, .float .f64 b] w fun e w' => e = .returned (.bool true) ∧ Below w.heap.size w w' := by
  have SL : ∀ (k : Int) (w : World), Calls Try.prog 7 #[.int .i64 k, .float .f64 a, .float .f64 b] w fun e w' => e = .returned (.float .f64 0) ∧ Below w.heap.size w w' := fun k w => by
    have h := slope_at k a b w HA.out HB.out
    rwa [slp_z HP.out HN.out] at h
  have SL1 := hid (SL 1)
  have SL2 := hid (SL 2)
  have SL3 := hid (SL 3)
  clear SL
  have S0 : Hid (∀ w, Calls Try.prog 8 #[.float .f64 0, .float .f64 0] w fun e w' => e = .returned (.bool true) ∧ w' = w) := fun w => same10_yes 0 0 w rfl
  have LV := hid (lives10_at w)
  have f0 : feq 0 0 = true := by decide
  have pp : (fgt a 0 && fgt b 0) = false := by rw [fgt_ps HA.out, fgt_ps HB.out]; exact HP.out
  have nn : (flt a 0 && flt b 0) = false := by rw [flt_ns HA.out, flt_ns HB.out]; exact HN.out
  have PP := hid pp
  have NN := hid nn
  clear pp nn HA HB HP HN
  go_enter Try.func4, Try.ntmps4
  go_wp2_with fail
  refine LV.out.mono ?_
  rintro e w0 ⟨rfl, b0⟩
  have B0 : Hid (Ab w w0) := b0
  clear b0 LV
  go_wp2_with fail
  refine (SL1.out _).mono ?_
  rintro e w1 ⟨rfl, b1⟩
  have B1 : Hid (Ab w w1) := Ab.trans B0.out b1
  clear b1 B0 SL1
  go_wp2_with fail
  refine (SL2.out _).mono ?_
  rintro e w2 ⟨rfl, b2⟩
  have B2 : Hid (Ab w w2) := Ab.trans B1.out b2
  clear b2 B1 SL2
  go_wp2_with fail
  refine (SL3.out _).mono ?_
  rintro e w3 ⟨rfl, b3⟩
  have B3 : Hid (Ab w w3) := Ab.trans B2.out b3
  clear b3 B2 SL3
  go_wp2
  have AW : Hid (Ab w (w3.alloc (.cells #[.float .f64 0, .float .f64 0, .float .f64 0] 22))) := Ab.alloc B3.out _
  clear B3
  obtain ⟨⟨o0, o1, o2⟩, o3, o4, o5⟩ := rowfacts (heap_alloc_new w3 (.cells #[.float .f64 0, .float .f64 0, .float .f64 0] 22))
  go_loopw [30] (fun iv wr => ∃ k : Nat, k ≤ 3 ∧ iv = .int .i64 (k : Nat) ∧ wr = w3.alloc (.cells #[.float .f64 0, .float .f64 0, .float .f64 0] 22)) (fun iv _ => 3 - (intOf iv).toNat)
  case atStart => exact ⟨0, by omega, rfl, rfl⟩
  case round =>
    obtain ⟨k, hk, rfl, rfl⟩ := hrel
    have hk4 : k = 0 ∨ k = 1 ∨ k = 2 ∨ k = 3 := by omega
    clear hk
    rcases hk4 with rfl | rfl | rfl | rfl
    · go_wp2_with fail
      refine (S0.out _).mono ?_
      rintro e w' ⟨rfl, hw⟩
      have hw2 := hw.symm
      subst hw2
      go_wp2
      go_roundw
      case rel => exact ⟨1, by omega, by simp, by simp⟩
      case measure => simp [intOf]
    · go_wp2_with fail
      refine (S0.out _).mono ?_
      rintro e w' ⟨rfl, hw⟩
      have hw2 := hw.symm
      subst hw2
      go_wp2
      go_roundw
      case rel => exact ⟨2, by omega, by simp, by simp⟩
      case measure => simp [intOf]
    · go_wp2_with fail
      refine (S0.out _).mono ?_
      rintro e w' ⟨rfl, hw⟩
      have hw2 := hw.symm
      subst hw2
      go_wp2
      go_roundw
      case rel => exact ⟨3, by omega, by simp, by simp⟩
      case measure => simp [intOf]
    · have pp := PP.out
      have nn := NN.out
      clear PP NN
      cases g1 : fgt a 0 <;> cases g2 : flt a 0 <;> rw [g1] at pp <;> rw [g2] at nn <;> (try rw [Bool.true_and] at pp) <;> (try rw [Bool.true_and] at nn) <;> (
        go_wp2_with fail
        refine (S0.out _).mono ?_
        rintro e w' ⟨rfl, hw⟩
        have hw2 := hw.symm
        subst hw2
        go_wp2_with fail
        refine (S0.out _).mono ?_
        rintro e w' ⟨rfl, hw⟩
        have hw2 := hw.symm
        subst hw2
        go_wp2_with fail
        refine (S0.out _).mono ?_
        rintro e w' ⟨rfl, hw⟩
        have hw2 := hw.symm
        subst hw2
        go_wp2
        go_ret
        exact ⟨rfl, AW.out⟩)
set_option maxHeartbeats 8000000 in
theorem bounds_u (a b m s l am bm mm sm A2 B2 H M2 : Nat) (w : World) (ga : fgt a 0 = true) (gb : fgt b 0 = true) (na : flt a 0 = false) (m0 : flt m 0 = false) (s0 : flt s 0 = false) (l0 : flt l 0 = false)
    (SL1 : Hid (∀ w, Calls Try.prog 7 #[.int .i64 1, .float .f64 a, .float .f64 b] w fun e w' => e = .returned (.float .f64 m) ∧ Below w.heap.size w w'))
    (SL2 : Hid (∀ w, Calls Try.prog 7 #[.int .i64 2, .float .f64 a, .float .f64 b] w fun e w' => e = .returned (.float .f64 s) ∧ Below w.heap.size w w'))
    (SL3 : Hid (∀ w, Calls Try.prog 7 #[.int .i64 3, .float .f64 a, .float .f64 b] w fun e w' => e = .returned (.float .f64 l) ∧ Below w.heap.size w w'))
    (e1 : feq m m = true) (e2 : feq s s = true) (e3 : feq l l = true) (Z1 : Hid (feq m 0 = true → m = 0)) (Z2 : Hid (feq s 0 = true → s = 0)) (Z3 : Hid (feq l 0 = true → l = 0))
    (eq : feq m a = true ∨ (feq m a = false ∧ feq m b = true))
    (MA : Hid (∀ w, Calls Try.prog 11 #[.float .f64 a] w fun e w' => e = .returned (.float .f64 am) ∧ w' = w))
    (MB : Hid (∀ w, Calls Try.prog 11 #[.float .f64 b] w fun e w' => e = .returned (.float .f64 bm) ∧ w' = w))
    (MM : Hid (∀ w, Calls Try.prog 11 #[.float .f64 m] w fun e w' => e = .returned (.float .f64 mm) ∧ w' = w))
    (MS : Hid (∀ w, Calls Try.prog 11 #[.float .f64 s] w fun e w' => e = .returned (.float .f64 sm) ∧ w' = w))
    (k1 : fgt mm am = false) (k2 : fgt mm bm = false)
    (FL : Hid (∀ w, Calls Try.prog 10 #[.float .f64 l] w fun e w' => e = .returned (.bool true) ∧ ∃ n, w' = w.drewN n))
    (RA : ∀ w t, (binOp .mul t (.float .f64 4611686018427387904) (.float .f64 a)).run Try.prog w = .ok (.float .f64 A2) w)
    (RB : ∀ w t, (binOp .mul t (.float .f64 4611686018427387904) (.float .f64 b)).run Try.prog w = .ok (.float .f64 B2) w)
    (RM : ∀ w t, (binOp .mul t (.float .f64 4611686018427387904) (.float .f64 mm)).run Try.prog w = .ok (.float .f64 M2) w)
    (FA : Hid (∀ w, Calls Try.prog 10 #[.float .f64 A2] w fun e w' => e = .returned (.bool (fin A2)) ∧ ∃ n, w' = w.drewN n))
    (FB : Hid (∀ w, Calls Try.prog 10 #[.float .f64 B2] w fun e w' => e = .returned (.bool (fin B2)) ∧ ∃ n, w' = w.drewN n))
    (MX : Hid (∀ w, Calls Try.prog 12 #[.float .f64 am, .float .f64 bm] w fun e w' => e = .returned (.float .f64 H) ∧ w' = w))
    (q1 : (fgt sm mm || feq sm mm) = true) (q2 : (flt sm M2 || feq sm M2) = true) (q3 : (flt sm H || feq sm H) = true) :
    Calls Try.prog 4 #[.float .f64 a, .float .f64 b] w fun e w' => e = .returned (.bool true) ∧ Below w.heap.size w w' := by
  have Zm : Hid (feq m 0 = true → ∀ w, Calls Try.prog 8 #[.float .f64 m, .float .f64 0] w fun e w' => e = .returned (.bool true) ∧ w' = w) := fun h w => same10_yes m 0 w (Z1.out h)
  have Zs : Hid (feq s 0 = true → ∀ w, Calls Try.prog 8 #[.float .f64 s, .float .f64 0] w fun e w' => e = .returned (.bool true) ∧ w' = w) := fun h w => same10_yes s 0 w (Z2.out h)
  have Zl : Hid (feq l 0 = true → ∀ w, Calls Try.prog 8 #[.float .f64 l, .float .f64 0] w fun e w' => e = .returned (.bool true) ∧ w' = w) := fun h w => same10_yes l 0 w (Z3.out h)
  clear Z1 Z2 Z3
  have LV := hid (lives10_at w)
  go_enter Try.func4, Try.ntmps4
  go_wp2_with fail
  refine LV.out.mono ?_
  rintro e w0 ⟨rfl, b0⟩
  have B0 : Hid (Ab w w0) := b0
  clear b0 LV
  go_wp2_with fail
  refine (SL1.out _).mono ?_
  rintro e w1 ⟨rfl, b1⟩
  have B1 : Hid (Ab w w1) := Ab.trans B0.out b1
  clear b1 B0 SL1
  go_wp2_with fail
  refine (SL2.out _).mono ?_
  rintro e w2 ⟨rfl, b2⟩
  have B2 : Hid (Ab w w2) := Ab.trans B1.out b2
  clear b2 B1 SL2
  go_wp2_with fail
  refine (SL3.out _).mono ?_
  rintro e w3 ⟨rfl, b3⟩
  have B3 : Hid (Ab w w3) := Ab.trans B2.out b3
  clear b3 B2 SL3
  go_wp2
  have AW : Hid (Ab w (w3.alloc (.cells #[.float .f64 m, .float .f64 s, .float .f64 l] 22))) := Ab.alloc B3.out _
  clear B3
  obtain ⟨⟨o0, o1, o2⟩, o3, o4, o5⟩ := rowfacts (heap_alloc_new w3 (.cells #[.float .f64 m, .float .f64 s, .float .f64 l] 22))
  go_loopw [30] (fun iv wr => ∃ k : Nat, k ≤ 3 ∧ iv = .int .i64 (k : Nat) ∧ wr = w3.alloc (.cells #[.float .f64 m, .float .f64 s, .float .f64 l] 22)) (fun iv _ => 3 - (intOf iv).toNat)
  case atStart => exact ⟨0, by omega, rfl, rfl⟩
  case round =>
    obtain ⟨k, hk, rfl, rfl⟩ := hrel
    have hk4 : k = 0 ∨ k = 1 ∨ k = 2 ∨ k = 3 := by omega
    clear hk
    rcases hk4 with rfl | rfl | rfl | rfl
    · cases z : feq m 0
      · go_wp2
        go_roundw
        case rel => exact ⟨1, by omega, by simp, by simp⟩
        case measure => simp [intOf]
      · have SZ := hid (Zm.out z)
        go_wp2_with fail
        refine (SZ.out _).mono ?_
        rintro e w' ⟨rfl, hw⟩
        have hw2 := hw.symm
        subst hw2
        go_wp2
        go_roundw
        case rel => exact ⟨1, by omega, by simp, by simp⟩
        case measure => simp [intOf]
    · cases z : feq s 0
      · go_wp2
        go_roundw
        case rel => exact ⟨2, by omega, by simp, by simp⟩
        case measure => simp [intOf]
      · have SZ := hid (Zs.out z)
        go_wp2_with fail
        refine (SZ.out _).mono ?_
        rintro e w' ⟨rfl, hw⟩
        have hw2 := hw.symm
        subst hw2
        go_wp2
        go_roundw
        case rel => exact ⟨2, by omega, by simp, by simp⟩
        case measure => simp [intOf]
    · cases z : feq l 0
      · go_wp2
        go_roundw
        case rel => exact ⟨3, by omega, by simp, by simp⟩
        case measure => simp [intOf]
      · have SZ := hid (Zl.out z)
        go_wp2_with fail
        refine (SZ.out _).mono ?_
        rintro e w' ⟨rfl, hw⟩
        have hw2 := hw.symm
        subst hw2
        go_wp2
        go_roundw
        case rel => exact ⟨3, by omega, by simp, by simp⟩
        case measure => simp [intOf]
    · clear Zm Zs Zl
      rcases eq with eq | ⟨eq, eq2⟩ <;> (
        go_wp2_with fail
        refine (MM.out _).mono ?_
        rintro e w' ⟨rfl, hw⟩
        have hw2 := hw.symm
        subst hw2
        go_wp2_with fail
        refine (MA.out _).mono ?_
        rintro e w' ⟨rfl, hw⟩
        have hw2 := hw.symm
        subst hw2
        go_wp2_with fail
        refine (MM.out _).mono ?_
        rintro e w' ⟨rfl, hw⟩
        have hw2 := hw.symm
        subst hw2
        go_wp2_with fail
        refine (MB.out _).mono ?_
        rintro e w' ⟨rfl, hw⟩
        have hw2 := hw.symm
        subst hw2
        go_wp2_with fail
        refine (FL.out _).mono ?_
        rintro e w' ⟨rfl, n1, rfl⟩
        have FA2 := FA.out
        cases fa : fin A2 <;> rw [fa] at FA2
        · have FA3 := hid FA2
          clear FA2 fa FA
          go_wp2_with fail
          refine (FA3.out _).mono ?_
          rintro e w' ⟨rfl, n2, rfl⟩
          go_wp2
          go_ret
          exact ⟨rfl, Ab.drewN AW.out _⟩
        · have FA3 := hid FA2
          clear FA2 fa FA
          go_wp2_with fail
          refine (FA3.out _).mono ?_
          rintro e w' ⟨rfl, n2, rfl⟩
          have FB2 := FB.out
          cases fb : fin B2 <;> rw [fb] at FB2
          · have FB3 := hid FB2
            clear FB2 fb FB
            go_wp2_with fail
            refine (FB3.out _).mono ?_
            rintro e w' ⟨rfl, n3, rfl⟩
            go_wp2
            go_ret
            exact ⟨rfl, Ab.drewN AW.out _⟩
          · have FB3 := hid FB2
            clear FB2 fb FB
            go_wp2_with fail
            refine (FB3.out _).mono ?_
            rintro e w' ⟨rfl, n3, rfl⟩
            go_wp2_with fail
            refine (MM.out _).mono ?_
            rintro e w' ⟨rfl, hw⟩
            have hw2 := hw.symm
            subst hw2
            go_wp2_with fail
            refine (MA.out _).mono ?_
            rintro e w' ⟨rfl, hw⟩
            have hw2 := hw.symm
            subst hw2
            go_wp2_with fail
            refine (MB.out _).mono ?_
            rintro e w' ⟨rfl, hw⟩
            have hw2 := hw.symm
            subst hw2
            go_wp2_with fail
            refine (MX.out _).mono ?_
            rintro e w' ⟨rfl, hw⟩
            have hw2 := hw.symm
            subst hw2
            go_wp2_with fail
            refine (MS.out _).mono ?_
            rintro e w' ⟨rfl, hw⟩
            have hw2 := hw.symm
            subst hw2
            go_wp2_with fail
            refine (MS.out _).mono ?_
            rintro e w' ⟨rfl, hw⟩
            have hw2 := hw.symm
            subst hw2
            go_wp2_with fail
            refine (MS.out _).mono ?_
            rintro e w' ⟨rfl, hw⟩
            have hw2 := hw.symm
            subst hw2
            go_wp2
            go_ret
            exact ⟨rfl, Ab.drewN AW.out _⟩)
set_option maxHeartbeats 8000000 in
theorem bounds_d (a b m s l am bm mm sm A2 B2 H M2 : Nat) (w : World) (na : fgt a 0 = false) (ga : flt a 0 = true) (gb : flt b 0 = true) (m0 : fgt m 0 = false) (s0 : fgt s 0 = false) (l0 : fgt l 0 = false)
    (SL1 : Hid (∀ w, Calls Try.prog 7 #[.int .i64 1, .float .f64 a, .float .f64 b] w fun e w' => e = .returned (.float .f64 m) ∧ Below w.heap.size w w'))
    (SL2 : Hid (∀ w, Calls Try.prog 7 #[.int .i64 2, .float .f64 a, .float .f64 b] w fun e w' => e = .returned (.float .f64 s) ∧ Below w.heap.size w w'))
    (SL3 : Hid (∀ w, Calls Try.prog 7 #[.int .i64 3, .float .f64 a, .float .f64 b] w fun e w' => e = .returned (.float .f64 l) ∧ Below w.heap.size w w'))
    (e1 : feq m m = true) (e2 : feq s s = true) (e3 : feq l l = true) (Z1 : Hid (feq m 0 = true → m = 0)) (Z2 : Hid (feq s 0 = true → s = 0)) (Z3 : Hid (feq l 0 = true → l = 0))
    (eq : feq m a = true ∨ (feq m a = false ∧ feq m b = true))
    (MA : Hid (∀ w, Calls Try.prog 11 #[.float .f64 a] w fun e w' => e = .returned (.float .f64 am) ∧ w' = w))
    (MB : Hid (∀ w, Calls Try.prog 11 #[.float .f64 b] w fun e w' => e = .returned (.float .f64 bm) ∧ w' = w))
    (MM : Hid (∀ w, Calls Try.prog 11 #[.float .f64 m] w fun e w' => e = .returned (.float .f64 mm) ∧ w' = w))
    (MS : Hid (∀ w, Calls Try.prog 11 #[.float .f64 s] w fun e w' => e = .returned (.float .f64 sm) ∧ w' = w))
    (k1 : fgt mm am = false) (k2 : fgt mm bm = false)
    (FL : Hid (∀ w, Calls Try.prog 10 #[.float .f64 l] w fun e w' => e = .returned (.bool true) ∧ ∃ n, w' = w.drewN n))
    (RA : ∀ w t, (binOp .mul t (.float .f64 4611686018427387904) (.float .f64 a)).run Try.prog w = .ok (.float .f64 A2) w)
    (RB : ∀ w t, (binOp .mul t (.float .f64 4611686018427387904) (.float .f64 b)).run Try.prog w = .ok (.float .f64 B2) w)
    (RM : ∀ w t, (binOp .mul t (.float .f64 4611686018427387904) (.float .f64 mm)).run Try.prog w = .ok (.float .f64 M2) w)
    (FA : Hid (∀ w, Calls Try.prog 10 #[.float .f64 A2] w fun e w' => e = .returned (.bool (fin A2)) ∧ ∃ n, w' = w.drewN n))
    (FB : Hid (∀ w, Calls Try.prog 10 #[.float .f64 B2] w fun e w' => e = .returned (.bool (fin B2)) ∧ ∃ n, w' = w.drewN n))
    (MX : Hid (∀ w, Calls Try.prog 12 #[.float .f64 am, .float .f64 bm] w fun e w' => e = .returned (.float .f64 H) ∧ w' = w))
    (q1 : (fgt sm mm || feq sm mm) = true) (q2 : (flt sm M2 || feq sm M2) = true) (q3 : (flt sm H || feq sm H) = true) :
    Calls Try.prog 4 #[.float .f64 a, .float .f64 b] w fun e w' => e = .returned (.bool true) ∧ Below w.heap.size w w' := by
  have Zm : Hid (feq m 0 = true → ∀ w, Calls Try.prog 8 #[.float .f64 m, .float .f64 0] w fun e w' => e = .returned (.bool true) ∧ w' = w) := fun h w => same10_yes m 0 w (Z1.out h)
  have Zs : Hid (feq s 0 = true → ∀ w, Calls Try.prog 8 #[.float .f64 s, .float .f64 0] w fun e w' => e = .returned (.bool true) ∧ w' = w) := fun h w => same10_yes s 0 w (Z2.out h)
  have Zl : Hid (feq l 0 = true → ∀ w, Calls Try.prog 8 #[.float .f64 l, .float .f64 0] w fun e w' => e = .returned (.bool true) ∧ w' = w) := fun h w => same10_yes l 0 w (Z3.out h)
  clear Z1 Z2 Z3
  have LV := hid (lives10_at w)
  go_enter Try.func4, Try.ntmps4
  go_wp2_with fail
  refine LV.out.mono ?_
  rintro e w0 ⟨rfl, b0⟩
  have B0 : Hid (Ab w w0) := b0
  clear b0 LV
  go_wp2_with fail
  refine (SL1.out _).mono ?_
  rintro e w1 ⟨rfl, b1⟩
  have B1 : Hid (Ab w w1) := Ab.trans B0.out b1
  clear b1 B0 SL1
  go_wp2_with fail
  refine (SL2.out _).mono ?_
  rintro e w2 ⟨rfl, b2⟩
  have B2 : Hid (Ab w w2) := Ab.trans B1.out b2
  clear b2 B1 SL2
  go_wp2_with fail
  refine (SL3.out _).mono ?_
  rintro e w3 ⟨rfl, b3⟩
  have B3 : Hid (Ab w w3) := Ab.trans B2.out b3
  clear b3 B2 SL3
  go_wp2
  have AW : Hid (Ab w (w3.alloc (.cells #[.float .f64 m, .float .f64 s, .float .f64 l] 22))) := Ab.alloc B3.out _
  clear B3
  obtain ⟨⟨o0, o1, o2⟩, o3, o4, o5⟩ := rowfacts (heap_alloc_new w3 (.cells #[.float .f64 m, .float .f64 s, .float .f64 l] 22))
  go_loopw [30] (fun iv wr => ∃ k : Nat, k ≤ 3 ∧ iv = .int .i64 (k : Nat) ∧ wr = w3.alloc (.cells #[.float .f64 m, .float .f64 s, .float .f64 l] 22)) (fun iv _ => 3 - (intOf iv).toNat)
  case atStart => exact ⟨0, by omega, rfl, rfl⟩
  case round =>
    obtain ⟨k, hk, rfl, rfl⟩ := hrel
    have hk4 : k = 0 ∨ k = 1 ∨ k = 2 ∨ k = 3 := by omega
    clear hk
    rcases hk4 with rfl | rfl | rfl | rfl
    · cases z : feq m 0
      · go_wp2
        go_roundw
        case rel => exact ⟨1, by omega, by simp, by simp⟩
        case measure => simp [intOf]
      · have SZ := hid (Zm.out z)
        go_wp2_with fail
        refine (SZ.out _).mono ?_
        rintro e w' ⟨rfl, hw⟩
        have hw2 := hw.symm
        subst hw2
        go_wp2
        go_roundw
        case rel => exact ⟨1, by omega, by simp, by simp⟩
        case measure => simp [intOf]
    · cases z : feq s 0
      · go_wp2
        go_roundw
        case rel => exact ⟨2, by omega, by simp, by simp⟩
        case measure => simp [intOf]
      · have SZ := hid (Zs.out z)
        go_wp2_with fail
        refine (SZ.out _).mono ?_
        rintro e w' ⟨rfl, hw⟩
        have hw2 := hw.symm
        subst hw2
        go_wp2
        go_roundw
        case rel => exact ⟨2, by omega, by simp, by simp⟩
        case measure => simp [intOf]
    · cases z : feq l 0
      · go_wp2
        go_roundw
        case rel => exact ⟨3, by omega, by simp, by simp⟩
        case measure => simp [intOf]
      · have SZ := hid (Zl.out z)
        go_wp2_with fail
        refine (SZ.out _).mono ?_
        rintro e w' ⟨rfl, hw⟩
        have hw2 := hw.symm
        subst hw2
        go_wp2
        go_roundw
        case rel => exact ⟨3, by omega, by simp, by simp⟩
        case measure => simp [intOf]
    · clear Zm Zs Zl
      rcases eq with eq | ⟨eq, eq2⟩ <;> (
        go_wp2_with fail
        refine (MM.out _).mono ?_
        rintro e w' ⟨rfl, hw⟩
        have hw2 := hw.symm
        subst hw2
        go_wp2_with fail
        refine (MA.out _).mono ?_
        rintro e w' ⟨rfl, hw⟩
        have hw2 := hw.symm
        subst hw2
        go_wp2_with fail
        refine (MM.out _).mono ?_
        rintro e w' ⟨rfl, hw⟩
        have hw2 := hw.symm
        subst hw2
        go_wp2_with fail
        refine (MB.out _).mono ?_
        rintro e w' ⟨rfl, hw⟩
        have hw2 := hw.symm
        subst hw2
        go_wp2_with fail
        refine (FL.out _).mono ?_
        rintro e w' ⟨rfl, n1, rfl⟩
        have FA2 := FA.out
        cases fa : fin A2 <;> rw [fa] at FA2
        · have FA3 := hid FA2
          clear FA2 fa FA
          go_wp2_with fail
          refine (FA3.out _).mono ?_
          rintro e w' ⟨rfl, n2, rfl⟩
          go_wp2
          go_ret
          exact ⟨rfl, Ab.drewN AW.out _⟩
        · have FA3 := hid FA2
          clear FA2 fa FA
          go_wp2_with fail
          refine (FA3.out _).mono ?_
          rintro e w' ⟨rfl, n2, rfl⟩
          have FB2 := FB.out
          cases fb : fin B2 <;> rw [fb] at FB2
          · have FB3 := hid FB2
            clear FB2 fb FB
            go_wp2_with fail
            refine (FB3.out _).mono ?_
            rintro e w' ⟨rfl, n3, rfl⟩
            go_wp2
            go_ret
            exact ⟨rfl, Ab.drewN AW.out _⟩
          · have FB3 := hid FB2
            clear FB2 fb FB
            go_wp2_with fail
            refine (FB3.out _).mono ?_
            rintro e w' ⟨rfl, n3, rfl⟩
            go_wp2_with fail
            refine (MM.out _).mono ?_
            rintro e w' ⟨rfl, hw⟩
            have hw2 := hw.symm
            subst hw2
            go_wp2_with fail
            refine (MA.out _).mono ?_
            rintro e w' ⟨rfl, hw⟩
            have hw2 := hw.symm
            subst hw2
            go_wp2_with fail
            refine (MB.out _).mono ?_
            rintro e w' ⟨rfl, hw⟩
            have hw2 := hw.symm
            subst hw2
            go_wp2_with fail
            refine (MX.out _).mono ?_
            rintro e w' ⟨rfl, hw⟩
            have hw2 := hw.symm
            subst hw2
            go_wp2_with fail
            refine (MS.out _).mono ?_
            rintro e w' ⟨rfl, hw⟩
            have hw2 := hw.symm
            subst hw2
            go_wp2_with fail
            refine (MS.out _).mono ?_
            rintro e w' ⟨rfl, hw⟩
            have hw2 := hw.symm
            subst hw2
            go_wp2_with fail
            refine (MS.out _).mono ?_
            rintro e w' ⟨rfl, hw⟩
            have hw2 := hw.symm
            subst hw2
            go_wp2
            go_ret
            exact ⟨rfl, Ab.drewN AW.out _⟩)
end Go.Proofs.Ytgbaaafikphafaa

/-
  Signs and bounds of slopes: of all floats.
-/
namespace Go.Proofs.Ytgbaaafikphafaa
open Go.RowKit Tf
theorem lm1 (a b : Nat) : lm 1 a b = min a b := by unfold lm; simp
theorem lm2 (a b : Nat) : lm 2 a b = sbee a b := by unfold lm; simp
theorem lm3 (a b : Nat) : lm 3 a b = lr a b := by unfold lm; simp
theorem maxB_nn {a b : Nat} (ha : a ≤ 9218868437227405312) (hb : b ≤ 9218868437227405312) : maxB a b = max a b := by
  unfold maxB
  rw [nn_N ha, nn_N hb]
  have e : ∀ x, x ≤ 9218868437227405312 → placeB x = 9223372036854775808 + x := fun x hx => by
    unfold placeB
    rw [ng_of_lt (by omega)]
    simp only [Bool.false_eq_true, if_false]
    exact Nat.add_comm _ _
  simp only [Bool.or_self, Bool.false_eq_true, if_false]
  rw [e a ha, e b hb]
  split <;> omega
theorem rk_dn {p : Nat} (h : p ≤ 9218868437227405312) : rk (p + 9223372036854775808) = -(p : Int) := by
  unfold rk
  rw [ng_of_ge (by omega), if_pos rfl]
  have : mg (p + 9223372036854775808) = p := by unfold mg; omega
  rw [this]
theorem N_dn {p : Nat} (h : p ≤ 9218868437227405312) : isN (p + 9223372036854775808) = false := isN_false.2 (by unfold mg; omega)
theorem feq_own10 {x : Nat} (hx : x < 18446744073709551616) (h : isN x = false) : feq x x = true := by
  rw [feq_rk x x hx hx, h]; simp
theorem feq_dn {p q : Nat} (hp : p ≤ 9218868437227405312) (hq : q ≤ 9218868437227405312) : feq (p + 9223372036854775808) (q + 9223372036854775808) = decide (p = q) := by
  rw [feq_rk _ _ (by omega) (by omega), rk_dn hp, rk_dn hq, N_dn hp, N_dn hq]
  by_cases c : p = q
  · rw [decide_eq_true c, decide_eq_true (by omega)]; rfl
  · rw [decide_eq_false c, decide_eq_false (by omega)]; rfl
theorem op_pos {x : Nat} (h : 0 < x) : op x = x + 9223372036854775808 := by unfold op; rw [if_neg (by omega)]
theorem op_N {x : Nat} (h : x ≤ 9218868437227405312) : isN (op x) = false := by
  unfold op
  split
  · decide
  · exact N_dn h
theorem op_fgt {x : Nat} (h : x ≤ 9218868437227405312) : fgt (op x) 0 = false := by
  have := op_lt h
  rw [fgt_ps (by omega)]
  refine ps_no.2 ?_
  unfold op
  split <;> omega
theorem op_zero {x : Nat} (h : x ≤ 9218868437227405312) (z : feq (op x) 0 = true) : op x = 0 := by
  unfold op at z ⊢
  split
  · rfl
  · rename_i c
    rw [if_neg c, feq_rk _ _ (by omega) (by decide), rk_dn h, rk_zero, decide_eq_false (p := -(x : Int) = 0) (by omega), Bool.and_false] at z
    exact absurd z (by decide)
theorem negB_dn (p : Nat) : negB (p + 9223372036854775808) = p := by
  unfold negB
  rw [ng_of_ge (by omega), if_pos rfl, Nat.add_sub_cancel]
theorem neg_dn {p : Nat} (h : p ≤ 9218868437227405312) : Op.negFloat .f64 (p + 9223372036854775808) = p := by
  rw [negFloat_eq _ (by omega), negB_dn p]
theorem mul_dn {p : Nat} (h : p ≤ 9218868437227405312) : Ieee.double.mul 4611686018427387904 (p + 9223372036854775808) = some (mlB 4611686018427387904 (p + 9223372036854775808)) := by
  have e := two_neg h
  cases k : Ieee.double.mul 4611686018427387904 (p + 9223372036854775808) with
  | none => rw [mlB_none k] at e; unfold quiet at e; omega
  | some r => rw [mlB_some k]
theorem flt_dn {p : Nat} (h : p ≤ 9218868437227405312) (h0 : 0 < p) : flt (p + 9223372036854775808) 0 = true := by
  rw [flt_ns (by omega)]
  exact ns_iff.2 (by omega)
theorem bounds_at (a b : Nat) (w : World) (ha : a < 18446744073709551616) (hb : b < 18446744073709551616) : Calls Try.prog 4 #[.float .f64 a, .float .f64 b] w fun e w' => e = .returned (.bool true) ∧ Below w.heap.size w w' := by
  cases pp : (ps a && ps b)
  · cases n : (ns a && ns b)
    · exact bounds_z a b w pp n ha hb
    · rw [Bool.and_eq_true] at n
      have h1 := ns_iff.1 n.1
      have h2 := ns_iff.1 n.2
      have fa := flt_ns ha
      have fb := flt_ns hb
      have ga := fgt_ps ha
      rw [n.1] at fa
      rw [n.2] at fb
      rw [ns_ps n.1] at ga
      have S := fun k w => slope_at k a b w ha hb
      simp only [slp_n n.1 n.2] at S
      obtain ⟨p, e⟩ : ∃ p, a = p + 9223372036854775808 := ⟨a - 9223372036854775808, by omega⟩
      obtain ⟨q, e'⟩ : ∃ q, b = q + 9223372036854775808 := ⟨b - 9223372036854775808, by omega⟩
      subst e
      subst e'
      simp only [Nat.add_sub_cancel] at S
      have p1 : p ≤ 9218868437227405312 := by omega
      have q1 : q ≤ 9218868437227405312 := by omega
      have p0 : 0 < p := by omega
      have q0 : 0 < q := by omega
      have sf := sbee_facts p1 q1
      have mi : 0 < min p q ∧ min p q ≤ 9218868437227405312 := by omega
      have L := lr_le p q
      have S1 := S 1
      have S2 := S 2
      have S3 := S 3
      rw [lm1] at S1
      rw [lm2] at S2
      rw [lm3] at S3
      have dp := two_neg p1
      have dq := two_neg q1
      have dp1 := (d2_facts p1).1
      have dq1 := (d2_facts q1).1
      have dm := (d2_facts mi.2).1
      have om := op_pos mi.1
      have os := op_pos (x := sbee p q) (by omega)
      refine bounds_d _ _ (op (min p q)) (op (sbee p q)) (op (lr p q)) p q (min p q) (sbee p q) (mlB 4611686018427387904 (p + 9223372036854775808)) (mlB 4611686018427387904 (q + 9223372036854775808)) (maxB p q) (mlB 4611686018427387904 (min p q)) w ga fa fb
        (op_fgt mi.2) (op_fgt (by omega)) (op_fgt (by omega)) S1 S2 S3 (feq_own10 (by omega) (op_N mi.2)) (feq_own10 (by omega) (op_N (by omega))) (feq_own10 (by have := op_lt (x := lr p q) (by omega); omega) (op_N (by omega)))
        (op_zero mi.2) (op_zero (by omega)) (op_zero (by omega)) ?_
        (fun w => mag10_n _ _ w fa (neg_dn p1)) (fun w => mag10_n _ _ w fb (neg_dn q1)) (fun w => mag10_n _ _ w (by rw [om]; exact flt_dn mi.2 mi.1) (by rw [om]; exact neg_dn mi.2)) (fun w => mag10_n _ _ w (by rw [os]; exact flt_dn (by omega) (by omega)) (by rw [os]; exact neg_dn (by omega)))
        (by rw [fgt_nn mi.2 p1]; exact decide_eq_false (by omega)) (by rw [fgt_nn mi.2 q1]; exact decide_eq_false (by omega))
        (fun w => finite10_yes _ w (by have := op_lt (x := lr p q) (by omega); omega) ?_) (fun w t => run_float_arith w .mul t .f64 _ _ _ (mul_dn p1)) (fun w t => run_float_arith w .mul t .f64 _ _ _ (mul_dn q1)) (fun w t => run_float_arith w .mul t .f64 _ _ _ (mul_pp (by decide) mi.2 (by decide) mi.1))
        (fun w => finite10_at _ w (by omega)) (fun w => finite10_at _ w (by omega)) (fun w => max_any p q w (by omega) (by omega)) ?_ ?_ ?_
      · rw [om, feq_dn mi.2 p1, feq_dn mi.2 q1]
        by_cases c : p ≤ q
        · exact .inl (decide_eq_true (by omega))
        · exact .inr ⟨decide_eq_false (by omega), decide_eq_true (by omega)⟩
      · unfold op
        split
        · decide
        · unfold fin
          refine decide_eq_true ?_
          unfold mg
          omega
      · rw [fgt_nn (by omega) mi.2, feq_nn (by omega) mi.2]
        by_cases c : min p q < sbee p q
        · rw [decide_eq_true c]; rfl
        · rw [decide_eq_true (p := sbee p q = min p q) (by omega), Bool.or_true]
      · rw [flt_nn (by omega) dm, feq_nn (by omega) dm]
        by_cases c : sbee p q < mlB 4611686018427387904 (min p q)
        · rw [decide_eq_true c]; rfl
        · rw [decide_eq_true (p := sbee p q = mlB 4611686018427387904 (min p q)) (by omega), Bool.or_true]
      · rw [maxB_nn p1 q1, flt_nn (by omega) (by omega), feq_nn (by omega) (by omega)]
        by_cases c : sbee p q < max p q
        · rw [decide_eq_true c]; rfl
        · rw [decide_eq_true (p := sbee p q = max p q) (by omega), Bool.or_true]
  · rw [Bool.and_eq_true] at pp
    obtain ⟨pa, pb⟩ := pp
    obtain ⟨p0, p1⟩ := ps_iff.1 pa
    obtain ⟨q0, q1⟩ := ps_iff.1 pb
    have fa := fgt_ps ha
    have fb := fgt_ps hb
    have ga := flt_ns ha
    rw [pa] at fa
    rw [pb] at fb
    rw [ps_ns pa] at ga
    have S := fun k w => slope_at k a b w ha hb
    simp only [slp_p pa pb] at S
    have sf := sbee_facts p1 q1
    have mi : 0 < min a b ∧ min a b ≤ 9218868437227405312 := by omega
    have L := lr_le a b
    have S1 := S 1
    have S2 := S 2
    have S3 := S 3
    rw [lm1] at S1
    rw [lm2] at S2
    rw [lm3] at S3
    have dp1 := (d2_facts p1).1
    have dq1 := (d2_facts q1).1
    have dm := (d2_facts mi.2).1
    have nl : ∀ x, x ≤ 9218868437227405312 → flt x 0 = false := fun x hx => by rw [flt_nn hx (by omega)]; exact decide_eq_false (by omega)
    have zz : ∀ x, x ≤ 9218868437227405312 → feq x 0 = true → x = 0 := fun x hx h => by rw [feq_nn hx (by omega), decide_eq_true_iff] at h; exact h
    refine bounds_u a b (min a b) (sbee a b) (lr a b) a b (min a b) (sbee a b) (mlB 4611686018427387904 a) (mlB 4611686018427387904 b) (maxB a b) (mlB 4611686018427387904 (min a b)) w fa fb ga
        (nl _ mi.2) (nl _ (by omega)) (nl _ (by omega)) S1 S2 S3 (feq_own10 (by omega) (nn_N mi.2)) (feq_own10 (by omega) (nn_N (by omega))) (feq_own10 (by omega) (nn_N (by omega)))
        (zz _ mi.2) (zz _ (by omega)) (zz _ (by omega)) ?_
        (fun w => mag10_p _ w ga) (fun w => mag10_p _ w (nl _ q1)) (fun w => mag10_p _ w (nl _ mi.2)) (fun w => mag10_p _ w (nl _ (by omega)))
        (by rw [fgt_nn mi.2 p1]; exact decide_eq_false (by omega)) (by rw [fgt_nn mi.2 q1]; exact decide_eq_false (by omega))
        (fun w => finite10_yes _ w (by omega) ?_) (fun w t => run_float_arith w .mul t .f64 _ _ _ (mul_pp (by decide) p1 (by decide) p0)) (fun w t => run_float_arith w .mul t .f64 _ _ _ (mul_pp (by decide) q1 (by decide) q0)) (fun w t => run_float_arith w .mul t .f64 _ _ _ (mul_pp (by decide) mi.2 (by decide) mi.1))
        (fun w => finite10_at _ w (by omega)) (fun w => finite10_at _ w (by omega)) (fun w => max_any a b w (by omega) (by omega)) ?_ ?_ ?_
    · rw [feq_nn mi.2 p1, feq_nn mi.2 q1]
      by_cases c : a ≤ b
      · exact .inl (decide_eq_true (by omega))
      · exact .inr ⟨decide_eq_false (by omega), decide_eq_true (by omega)⟩
    · unfold fin
      refine decide_eq_true ?_
      rw [mg_of_lt (by omega)]
      exact L
    · rw [fgt_nn (by omega) mi.2, feq_nn (by omega) mi.2]
      by_cases c : min a b < sbee a b
      · rw [decide_eq_true c]; rfl
      · rw [decide_eq_true (p := sbee a b = min a b) (by omega), Bool.or_true]
    · rw [flt_nn (by omega) dm, feq_nn (by omega) dm]
      by_cases c : sbee a b < mlB 4611686018427387904 (min a b)
      · rw [decide_eq_true c]; rfl
      · rw [decide_eq_true (p := sbee a b = mlB 4611686018427387904 (min a b)) (by omega), Bool.or_true]
    · rw [maxB_nn p1 q1, flt_nn (by omega) (by omega), feq_nn (by omega) (by omega)]
      by_cases c : sbee a b < max a b
      · rw [decide_eq_true c]; rfl
      · rw [decide_eq_true (p := sbee a b = max a b) (by omega), Bool.or_true]
end Go.Proofs.Ytgbaaafikphafaa
