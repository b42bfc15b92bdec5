/-
  Some of the texts of this proof, one behind the other.
-/
import Derived.Test.YtgbaaafikphafaaZ06
/-
  Signs and bounds of slopes: the statement's walk.
-/
namespace Go.Proofs.Ytgbaaafikphafaa
open Go.RowKit Tf
attribute [local go_sem] run_bits run_from raw_feq raw_fne raw_flt raw_fgt run_neg
set_option maxHeartbeats 8000000 in
theorem bounds_z (a b : Nat) (w : World) (HP : Hid ((ps a && ps b) = false)) (HN : Hid ((ns a && ns b) = false)) (HA : Hid (a < 18446744073709551616)) (HB : Hid (b < 18446744073709551616)) : Calls Try.prog 4 #[.float .f64 a, .float .f64 b] w fun e w' => e = .returned (.bool true) ∧ Below w.heap.size w w' := by
  have SL : ∀ (k : Int) (w : World), Calls Try.prog 7 #[.int .i64 k, .float .f64 a, .float .f64 b] w fun e w' => e = .returned (.float .f64 0) ∧ Below w.heap.size w w' := fun k w => by
    have h := slope_at k a b w HA.out HB.out
    rwa [slp_z HP.out HN.out] at h
  have SL1 := hid (SL 1)
  have SL2 := hid (SL 2)
  have SL3 := hid (SL 3)
  clear SL
  have S0 : Hid (∀ w, Calls Try.prog 8 #[.float .f64 0, .float .f64 0] w fun e w' => e = .returned (.bool true) ∧ w' = w) := fun w => same10_yes 0 0 w rfl
  have LV := hid (lives10_at w)
  have f0 : feq 0 0 = true := by decide
  have pp : (fgt a 0 && fgt b 0) = false := by rw [fgt_ps HA.out, fgt_ps HB.out]; exact HP.out
  have nn : (flt a 0 && flt b 0) = false := by rw [flt_ns HA.out, flt_ns HB.out]; exact HN.out
  have PP := hid pp
  have NN := hid nn
  clear pp nn HA HB HP HN
  go_enter Try.func4, Try.ntmps4
  go_wp2_with fail
  refine LV.out.mono ?_
  rintro e w0 ⟨rfl, b0⟩
  have B0 : Hid (Ab w w0) := b0
  clear b0 LV
  go_wp2_with fail
  refine (SL1.out _).mono ?_
  rintro e w1 ⟨rfl, b1⟩
  have B1 : Hid (Ab w w1) := Ab.trans B0.out b1
  clear b1 B0 SL1
  go_wp2_with fail
  refine (SL2.out _).mono ?_
  rintro e w2 ⟨rfl, b2⟩
  have B2 : Hid (Ab w w2) := Ab.trans B1.out b2
  clear b2 B1 SL2
  go_wp2_with fail
  refine (SL3.out _).mono ?_
  rintro e w3 ⟨rfl, b3⟩
  have B3 : Hid (Ab w w3) := Ab.trans B2.out b3
  clear b3 B2 SL3
  go_wp2
  have AW : Hid (Ab w (w3.alloc (.cells #[.float .f64 0, .float .f64 0, .float .f64 0] 22))) := Ab.alloc B3.out _
  clear B3
  obtain ⟨⟨o0, o1, o2⟩, o3, o4, o5⟩ := rowfacts (heap_alloc_new w3 (.cells #[.float .f64 0, .float .f64 0, .float .f64 0] 22))
  go_loopw [30] (fun iv wr => ∃ k : Nat, k ≤ 3 ∧ iv = .int .i64 (k : Nat) ∧ wr = w3.alloc (.cells #[.float .f64 0, .float .f64 0, .float .f64 0] 22)) (fun iv _ => 3 - (intOf iv).toNat)
  case atStart => exact ⟨0, by omega, rfl, rfl⟩
  case round =>
    obtain ⟨k, hk, rfl, rfl⟩ := hrel
    have hk4 : k = 0 ∨ k = 1 ∨ k = 2 ∨ k = 3 := by omega
    clear hk
    rcases hk4 with rfl | rfl | rfl | rfl
    · go_wp2_with fail
      refine (S0.out _).mono ?_
      rintro e w' ⟨rfl, hw⟩
      have hw2 := hw.symm
      subst hw2
      go_wp2
      go_roundw
      case rel => exact ⟨1, by omega, by simp, by simp⟩
      case measure => simp [intOf]
    · go_wp2_with fail
      refine (S0.out _).mono ?_
      rintro e w' ⟨rfl, hw⟩
      have hw2 := hw.symm
      subst hw2
      go_wp2
      go_roundw
      case rel => exact ⟨2, by omega, by simp, by simp⟩
      case measure => simp [intOf]
    · go_wp2_with fail
      refine (S0.out _).mono ?_
      rintro e w' ⟨rfl, hw⟩
      have hw2 := hw.symm
      subst hw2
      go_wp2
      go_roundw
      case rel => exact ⟨3, by omega, by simp, by simp⟩
      case measure => simp [intOf]
    · have pp := PP.out
      have nn := NN.out
      clear PP NN
      cases g1 : fgt a 0 <;> cases g2 : flt a 0 <;> rw [g1] at pp <;> rw [g2] at nn <;> (try rw [Bool.true_and] at pp) <;> (try rw [Bool.true_and] at nn) <;> (
        go_wp2_with fail
        refine (S0.out _).mono ?_
        rintro e w' ⟨rfl, hw⟩
        have hw2 := hw.symm
        subst hw2
        go_wp2_with fail
        refine (S0.out _).mono ?_
        rintro e w' ⟨rfl, hw⟩
        have hw2 := hw.symm
        subst hw2
        go_wp2_with fail
        refine (S0.out _).mono ?_
        rintro e w' ⟨rfl, hw⟩
        have hw2 := hw.symm
        subst hw2
        go_wp2
        go_ret
        exact ⟨rfl, AW.out⟩)
set_option maxHeartbeats 8000000 in
theorem bounds_u (a b m s l am bm mm sm A2 B2 H M2 : Nat) (w : World) (ga : fgt a 0 = true) (gb : fgt b 0 = true) (na : flt a 0 = false) (m0 : flt m 0 = false) (s0 : flt s 0 = false) (l0 : flt l 0 = false)
    (SL1 : Hid (∀ w, Calls Try.prog 7 #[.int .i64 1, .float .f64 a, .float .f64 b] w fun e w' => e = .returned (.float .f64 m) ∧ Below w.heap.size w w'))
    (SL2 : Hid (∀ w, Calls Try.prog 7 #[.int .i64 2, .float .f64 a, .float .f64 b] w fun e w' => e = .returned (.float .f64 s) ∧ Below w.heap.size w w'))
    (SL3 : Hid (∀ w, Calls Try.prog 7 #[.int .i64 3, .float .f64 a, .float .f64 b] w fun e w' => e = .returned (.float .f64 l) ∧ Below w.heap.size w w'))
    (e1 : feq m m = true) (e2 : feq s s = true) (e3 : feq l l = true) (Z1 : Hid (feq m 0 = true → m = 0)) (Z2 : Hid (feq s 0 = true → s = 0)) (Z3 : Hid (feq l 0 = true → l = 0))
    (eq : feq m a = true ∨ (feq m a = false ∧ feq m b = true))
    (MA : Hid (∀ w, Calls Try.prog 11 #[.float .f64 a] w fun e w' => e = .returned (.float .f64 am) ∧ w' = w))
    (MB : Hid (∀ w, Calls Try.prog 11 #[.float .f64 b] w fun e w' => e = .returned (.float .f64 bm) ∧ w' = w))
    (MM : Hid (∀ w, Calls Try.prog 11 #[.float .f64 m] w fun e w' => e = .returned (.float .f64 mm) ∧ w' = w))
    (MS : Hid (∀ w, Calls Try.prog 11 #[.float .f64 s] w fun e w' => e = .returned (.float .f64 sm) ∧ w' = w))
    (k1 : fgt mm am = false) (k2 : fgt mm bm = false)
    (FL : Hid (∀ w, Calls Try.prog 10 #[.float .f64 l] w fun e w' => e = .returned (.bool true) ∧ ∃ n, w' = w.drewN n))
    (RA : ∀ w t, (binOp .mul t (.float .f64 4611686018427387904) (.float .f64 a)).run Try.prog w = .ok (.float .f64 A2) w)
    (RB : ∀ w t, (binOp .mul t (.float .f64 4611686018427387904) (.float .f64 b)).run Try.prog w = .ok (.float .f64 B2) w)
    (RM : ∀ w t, (binOp .mul t (.float .f64 4611686018427387904) (.float .f64 mm)).run Try.prog w = .ok (.float .f64 M2) w)
    (FA : Hid (∀ w, Calls Try.prog 10 #[.float .f64 A2] w fun e w' => e = .returned (.bool (fin A2)) ∧ ∃ n, w' = w.drewN n))
    (FB : Hid (∀ w, Calls Try.prog 10 #[.float .f64 B2] w fun e w' => e = .returned (.bool (fin B2)) ∧ ∃ n, w' = w.drewN n))
    (MX : Hid (∀ w, Calls Try.prog 12 #[.float .f64 am, .float .f64 bm] w fun e w' => e = .returned (.float .f64 H) ∧ w' = w))
    (q1 : (fgt sm mm || feq sm mm) = true) (q2 : (flt sm M2 || feq sm M2) = true) (q3 : (flt sm H || feq sm H) = true) :
    Calls Try.prog 4 #[.float .f64 a, .float .f64 b] w fun e w' => e = .returned (.bool true) ∧ Below w.heap.size w w' := by
  have Zm : Hid (feq m 0 = true → ∀ w, Calls Try.prog 8 #[.float .f64 m, .float .f64 0] w fun e w' => e = .returned (.bool true) ∧ w' = w) := fun h w => same10_yes m 0 w (Z1.out h)
  have Zs : Hid (feq s 0 = true → ∀ w, Calls Try.prog 8 #[.float .f64 s, .float .f64 0] w fun e w' => e = .returned (.bool true) ∧ w' = w) := fun h w => same10_yes s 0 w (Z2.out h)
  have Zl : Hid (feq l 0 = true → ∀ w, Calls Try.prog 8 #[.float .f64 l, .float .f64 0] w fun e w' => e = .returned (.bool true) ∧ w' = w) := fun h w => same10_yes l 0 w (Z3.out h)
  clear Z1 Z2 Z3
  have LV := hid (lives10_at w)
  go_enter Try.func4, Try.ntmps4
  go_wp2_with fail
  refine LV.out.mono ?_
  rintro e w0 ⟨rfl, b0⟩
  have B0 : Hid (Ab w w0) := b0
  clear b0 LV
  go_wp2_with fail
  refine (SL1.out _).mono ?_
  rintro e w1 ⟨rfl, b1⟩
  have B1 : Hid (Ab w w1) := Ab.trans B0.out b1
  clear b1 B0 SL1
  go_wp2_with fail
  refine (SL2.out _).mono ?_
  rintro e w2 ⟨rfl, b2⟩
  have B2 : Hid (Ab w w2) := Ab.trans B1.out b2
  clear b2 B1 SL2
  go_wp2_with fail
  refine (SL3.out _).mono ?_
  rintro e w3 ⟨rfl, b3⟩
  have B3 : Hid (Ab w w3) := Ab.trans B2.out b3
  clear b3 B2 SL3
  go_wp2
  have AW : Hid (Ab w (w3.alloc (.cells #[.float .f64 m, .float .f64 s, .float .f64 l] 22))) := Ab.alloc B3.out _
  clear B3
  obtain ⟨⟨o0, o1, o2⟩, o3, o4, o5⟩ := rowfacts (heap_alloc_new w3 (.cells #[.float .f64 m, .float .f64 s, .float .f64 l] 22))
  go_loopw [30] (fun iv wr => ∃ k : Nat, k ≤ 3 ∧ iv = .int .i64 (k : Nat) ∧ wr = w3.alloc (.cells #[.float .f64 m, .float .f64 s, .float .f64 l] 22)) (fun iv _ => 3 - (intOf iv).toNat)
  case atStart => exact ⟨0, by omega, rfl, rfl⟩
  case round =>
    obtain ⟨k, hk, rfl, rfl⟩ := hrel
    have hk4 : k = 0 ∨ k = 1 ∨ k = 2 ∨ k = 3 := by omega
    clear hk
    rcases hk4 with rfl | rfl | rfl | rfl
    · cases z : feq m 0
      · go_wp2
        go_roundw
        case rel => exact ⟨1, by omega, by simp, by simp⟩
        case measure => simp [intOf]
      · have SZ := hid (Zm.out z)
        go_wp2_with fail
        refine (SZ.out _).mono ?_
        rintro e w' ⟨rfl, hw⟩
        have hw2 := hw.symm
        subst hw2
        go_wp2
        go_roundw
        case rel => exact ⟨1, by omega, by simp, by simp⟩
        case measure => simp [intOf]
    · cases z : feq s 0
      · go_wp2
        go_roundw
        case rel => exact ⟨2, by omega, by simp, by simp⟩
        case measure => simp [intOf]
      · have SZ := hid (Zs.out z)
        go_wp2_with fail
        refine (SZ.out _).mono ?_
        rintro e w' ⟨rfl, hw⟩
        have hw2 := hw.symm
        subst hw2
        go_wp2
        go_roundw
        case rel => exact ⟨2, by omega, by simp, by simp⟩
        case measure => simp [intOf]
    · cases z : feq l 0
      · go_wp2
        go_roundw
        case rel => exact ⟨3, by omega, by simp, by simp⟩
        case measure => simp [intOf]
      · have SZ := hid (Zl.out z)
        go_wp2_with fail
        refine (SZ.out _).mono ?_
        rintro e w' ⟨rfl, hw⟩
        have hw2 := hw.symm
        subst hw2
        go_wp2
        go_roundw
        case rel => exact ⟨3, by omega, by simp, by simp⟩
        case measure => simp [intOf]
    · clear Zm Zs Zl
      rcases eq with eq | ⟨eq, eq2⟩ <;> (
        go_wp2_with fail
        refine (MM.out _).mono ?_
        rintro e w' ⟨rfl, hw⟩
        have hw2 := hw.symm
        subst hw2
        go_wp2_with fail
        refine (MA.out _).mono ?_
        rintro e w' ⟨rfl, hw⟩
        have hw2 := hw.symm
        subst hw2
        go_wp2_with fail
        refine (MM.out _).mono ?_
        rintro e w' ⟨rfl, hw⟩
        have hw2 := hw.symm
        subst hw2
        go_wp2_with fail
        refine (MB.out _).mono ?_
        rintro e w' ⟨rfl, hw⟩
        have hw2 := hw.symm
        subst hw2
        go_wp2_with fail
        refine (FL.out _).mono ?_
        rintro e w' ⟨rfl, n1, rfl⟩
        have FA2 := FA.out
        cases fa : fin A2 <;> rw [fa] at FA2
        · have FA3 := hid FA2
          clear FA2 fa FA
          go_wp2_with fail
          refine (FA3.out _).mono ?_
          rintro e w' ⟨rfl, n2, rfl⟩
          go_wp2
          go_ret
          exact ⟨rfl, Ab.drewN AW.out _⟩
        · have FA3 := hid FA2
          clear FA2 fa FA
          go_wp2_with fail
          refine (FA3.out _).mono ?_
          rintro e w' ⟨rfl, n2, rfl⟩
          have FB2 := FB.out
          cases fb : fin B2 <;> rw [fb] at FB2
          · have FB3 := hid FB2
            clear FB2 fb FB
            go_wp2_with fail
            refine (FB3.out _).mono ?_
            rintro e w' ⟨rfl, n3, rfl⟩
            go_wp2
            go_ret
            exact ⟨rfl, Ab.drewN AW.out _⟩
          · have FB3 := hid FB2
            clear FB2 fb FB
            go_wp2_with fail
            refine (FB3.out _).mono ?_
            rintro e w' ⟨rfl, n3, rfl⟩
            go_wp2_with fail
            refine (MM.out _).mono ?_
            rintro e w' ⟨rfl, hw⟩
            have hw2 := hw.symm
            subst hw2
            go_wp2_with fail
            refine (MA.out _).mono ?_
            rintro e w' ⟨rfl, hw⟩
            have hw2 := hw.symm
            subst hw2
            go_wp2_with fail
            refine (MB.out _).mono ?_
            rintro e w' ⟨rfl, hw⟩
            have hw2 := hw.symm
            subst hw2
            go_wp2_with fail
            refine (MX.out _).mono ?_
            rintro e w' ⟨rfl, hw⟩
            have hw2 := hw.symm
            subst hw2
            go_wp2_with fail
            refine (MS.out _).mono ?_
            rintro e w' ⟨rfl, hw⟩
            have hw2 := hw.symm
            subst hw2
            go_wp2_with fail
            refine (MS.out _).mono ?_
            rintro e w' ⟨rfl, hw⟩
            have hw2 := hw.symm
            subst hw2
            go_wp2_with fail
            refine (MS.out _).mono ?_
            rintro e w' ⟨rfl, hw⟩
            have hw2 := hw.symm
            subst hw2
            go_wp2
            go_ret
            exact ⟨rfl, Ab.drewN AW.out _⟩)
set_option maxHeartbeats 8000000 in
theorem bounds_d (a b m s l am bm mm sm A2 B2 H M2 : Nat) (w : World) (na : fgt a 0 = false) (ga : flt a 0 = true) (gb : flt b 0 = true) (m0 : fgt m 0 = false) (s0 : fgt s 0 = false) (l0 : fgt l 0 = false)
    (SL1 : Hid (∀ w, Calls Try.prog 7 #[.int .i64 1, .float .f64 a, .float .f64 b] w fun e w' => e = .returned (.float .f64 m) ∧ Below w.heap.size w w'))
    (SL2 : Hid (∀ w, Calls Try.prog 7 #[.int .i64 2, .float .f64 a, .float .f64 b] w fun e w' => e = .returned (.float .f64 s) ∧ Below w.heap.size w w'))
    (SL3 : Hid (∀ w, Calls Try.prog 7 #[.int .i64 3, .float .f64 a, .float .f64 b] w fun e w' => e = .returned (.float .f64 l) ∧ Below w.heap.size w w'))
    (e1 : feq m m = true) (e2 : feq s s = true) (e3 : feq l l = true) (Z1 : Hid (feq m 0 = true → m = 0)) (Z2 : Hid (feq s 0 = true → s = 0)) (Z3 : Hid (feq l 0 = true → l = 0))
    (eq : feq m a = true ∨ (feq m a = false ∧ feq m b = true))
    (MA : Hid (∀ w, Calls Try.prog 11 #[.float .f64 a] w fun e w' => e = .returned (.float .f64 am) ∧ w' = w))
    (MB : Hid (∀ w, Calls Try.prog 11 #[.float .f64 b] w fun e w' => e = .returned (.float .f64 bm) ∧ w' = w))
    (MM : Hid (∀ w, Calls Try.prog 11 #[.float .f64 m] w fun e w' => e = .returned (.float .f64 mm) ∧ w' = w))
    (MS : Hid (∀ w, Calls Try.prog 11 #[.float .f64 s] w fun e w' => e = .returned (.float .f64 sm) ∧ w' = w))
    (k1 : fgt mm am = false) (k2 : fgt mm bm = false)
    (FL : Hid (∀ w, Calls Try.prog 10 #[.float .f64 l] w fun e w' => e = .returned (.bool true) ∧ ∃ n, w' = w.drewN n))
    (RA : ∀ w t, (binOp .mul t (.float .f64 4611686018427387904) (.float .f64 a)).run Try.prog w = .ok (.float .f64 A2) w)
    (RB : ∀ w t, (binOp .mul t (.float .f64 4611686018427387904) (.float .f64 b)).run Try.prog w = .ok (.float .f64 B2) w)
    (RM : ∀ w t, (binOp .mul t (.float .f64 4611686018427387904) (.float .f64 mm)).run Try.prog w = .ok (.float .f64 M2) w)
    (FA : Hid (∀ w, Calls Try.prog 10 #[.float .f64 A2] w fun e w' => e = .returned (.bool (fin A2)) ∧ ∃ n, w' = w.drewN n))
    (FB : Hid (∀ w, Calls Try.prog 10 #[.float .f64 B2] w fun e w' => e = .returned (.bool (fin B2)) ∧ ∃ n, w' = w.drewN n))
    (MX : Hid (∀ w, Calls Try.prog 12 #[.float .f64 am, .float .f64 bm] w fun e w' => e = .returned (.float .f64 H) ∧ w' = w))
    (q1 : (fgt sm mm || feq sm mm) = true) (q2 : (flt sm M2 || feq sm M2) = true) (q3 : (flt sm H || feq sm H) = true) :
    Calls Try.prog 4 #[.float .f64 a, .float .f64 b] w fun e w' => e = .returned (.bool true) ∧ Below w.heap.size w w' := by
  have Zm : Hid (feq m 0 = true → ∀ w, Calls Try.prog 8 #[.float .f64 m, .float .f64 0] w fun e w' => e = .returned (.bool true) ∧ w' = w) := fun h w => same10_yes m 0 w (Z1.out h)
  have Zs : Hid (feq s 0 = true → ∀ w, Calls Try.prog 8 #[.float .f64 s, .float .f64 0] w fun e w' => e = .returned (.bool true) ∧ w' = w) := fun h w => same10_yes s 0 w (Z2.out h)
  have Zl : Hid (feq l 0 = true → ∀ w, Calls Try.prog 8 #[.float .f64 l, .float .f64 0] w fun e w' => e = .returned (.bool true) ∧ w' = w) := fun h w => same10_yes l 0 w (Z3.out h)
  clear Z1 Z2 Z3
  have LV := hid (lives10_at w)
  go_enter Try.func4, Try.ntmps4
  go_wp2_with fail
  refine LV.out.mono ?_
  rintro e w0 ⟨rfl, b0⟩
  have B0 : Hid (Ab w w0) := b0
  clear b0 LV
  go_wp2_with fail
  refine (SL1.out _).mono ?_
  rintro e w1 ⟨rfl, b1⟩
  have B1 : Hid (Ab w w1) := Ab.trans B0.out b1
  clear b1 B0 SL1
  go_wp2_with fail
  refine (SL2.out _).mono ?_
  rintro e w2 ⟨rfl, b2⟩
  have B2 : Hid (Ab w w2) := Ab.trans B1.out b2
  clear b2 B1 SL2
  go_wp2_with fail
  refine (SL3.out _).mono ?_
  rintro e w3 ⟨rfl, b3⟩
  have B3 : Hid (Ab w w3) := Ab.trans B2.out b3
  clear b3 B2 SL3
  go_wp2
  have AW : Hid (Ab w (w3.alloc (.cells #[.float .f64 m, .float .f64 s, .float .f64 l] 22))) := Ab.alloc B3.out _
  clear B3
  obtain ⟨⟨o0, o1, o2⟩, o3, o4, o5⟩ := rowfacts (heap_alloc_new w3 (.cells #[.float .f64 m, .float .f64 s, .float .f64 l] 22))
  go_loopw [30] (fun iv wr => ∃ k : Nat, k ≤ 3 ∧ iv = .int .i64 (k : Nat) ∧ wr = w3.alloc (.cells #[.float .f64 m, .float .f64 s, .float .f64 l] 22)) (fun iv _ => 3 - (intOf iv).toNat)
  case atStart => exact ⟨0, by omega, rfl, rfl⟩
  case round =>
    obtain ⟨k, hk, rfl, rfl⟩ := hrel
    have hk4 : k = 0 ∨ k = 1 ∨ k = 2 ∨ k = 3 := by omega
    clear hk
    rcases hk4 with rfl | rfl | rfl | rfl
    · cases z : feq m 0
      · go_wp2
        go_roundw
        case rel => exact ⟨1, by omega, by simp, by simp⟩
        case measure => simp [intOf]
      · have SZ := hid (Zm.out z)
        go_wp2_with fail
        refine (SZ.out _).mono ?_
        rintro e w' ⟨rfl, hw⟩
        have hw2 := hw.symm
        subst hw2
        go_wp2
        go_roundw
        case rel => exact ⟨1, by omega, by simp, by simp⟩
        case measure => simp [intOf]
    · cases z : feq s 0
      · go_wp2
        go_roundw
        case rel => exact ⟨2, by omega, by simp, by simp⟩
        case measure => simp [intOf]
      · have SZ := hid (Zs.out z)
        go_wp2_with fail
        refine (SZ.out _).mono ?_
        rintro e w' ⟨rfl, hw⟩
        have hw2 := hw.symm
        subst hw2
        go_wp2
        go_roundw
        case rel => exact ⟨2, by omega, by simp, by simp⟩
        case measure => simp [intOf]
    · cases z : feq l 0
      · go_wp2
        go_roundw
        case rel => exact ⟨3, by omega, by simp, by simp⟩
        case measure => simp [intOf]
      · have SZ := hid (Zl.out z)
        go_wp2_with fail
        refine (SZ.out _).mono ?_
        rintro e w' ⟨rfl, hw⟩
        have hw2 := hw.symm
        subst hw2
        go_wp2
        go_roundw
        case rel => exact ⟨3, by omega, by simp, by simp⟩
        case measure => simp [intOf]
    · clear Zm Zs Zl
      rcases eq with eq | ⟨eq, eq2⟩ <;> (
        go_wp2_with fail
        refine (MM.out _).mono ?_
        rintro e w' ⟨rfl, hw⟩
        have hw2 := hw.symm
        subst hw2
        go_wp2_with fail
        refine (MA.out _).mono ?_
        rintro e w' ⟨rfl, hw⟩
        have hw2 := hw.symm
        subst hw2
        go_wp2_with fail
        refine (MM.out _).mono ?_
        rintro e w' ⟨rfl, hw⟩
        have hw2 := hw.symm
        subst hw2
        go_wp2_with fail
        refine (MB.out _).mono ?_
        rintro e w' ⟨rfl, hw⟩
        have hw2 := hw.symm
        subst hw2
        go_wp2_with fail
        refine (FL.out _).mono ?_
        rintro e w' ⟨rfl, n1, rfl⟩
        have FA2 := FA.out
        cases fa : fin A2 <;> rw [fa] at FA2
        · have FA3 := hid FA2
          clear FA2 fa FA
          go_wp2_with fail
          refine (FA3.out _).mono ?_
          rintro e w' ⟨rfl, n2, rfl⟩
          go_wp2
          go_ret
          exact ⟨rfl, Ab.drewN AW.out _⟩
        · have FA3 := hid FA2
          clear FA2 fa FA
          go_wp2_with fail
          refine (FA3.out _).mono ?_
          rintro e w' ⟨rfl, n2, rfl⟩
          have FB2 := FB.out
          cases fb : fin B2 <;> rw [fb] at FB2
          · have FB3 := hid FB2
            clear FB2 fb FB
            go_wp2_with fail
            refine (FB3.out _).mono ?_
            rintro e w' ⟨rfl, n3, rfl⟩
            go_wp2
            go_ret
            exact ⟨rfl, Ab.drewN AW.out _⟩
          · have FB3 := hid FB2
            clear FB2 fb FB
            go_wp2_with fail
            refine (FB3.out _).mono ?_
            rintro e w' ⟨rfl, n3, rfl⟩
            go_wp2_with fail
            refine (MM.out _).mono ?_
            rintro e w' ⟨rfl, hw⟩
            have hw2 := hw.symm
            subst hw2
            go_wp2_with fail
            refine (MA.out _).mono ?_
            rintro e w' ⟨rfl, hw⟩
            have hw2 := hw.symm
            subst hw2
            go_wp2_with fail
            refine (MB.out _).mono ?_
            rintro e w' ⟨rfl, hw⟩
            have hw2 := hw.symm
            subst hw2
            go_wp2_with fail
            refine (MX.out _).mono ?_
            rintro e w' ⟨rfl, hw⟩
            have hw2 := hw.symm
            subst hw2
            go_wp2_with fail
            refine (MS.out _).mono ?_
            rintro e w' ⟨rfl, hw⟩
            have hw2 := hw.symm
            subst hw2
            go_wp2_with fail
            refine (MS.out _).mono ?_
            rintro e w' ⟨rfl, hw⟩
            have hw2 := hw.symm
            subst hw2
            go_wp2_with fail
            refine (MS.out _).mono ?_
            rintro e w' ⟨rfl, hw⟩
            have hw2 := hw.symm
            subst hw2
            go_wp2
            go_ret
            exact ⟨rfl, Ab.drewN AW.out _⟩)
end Go.Proofs.Ytgbaaafikphafaa

/-
  Signs and bounds of slopes: of all floats.
-/
namespace Go.Proofs.Ytgbaaafikphafaa
open Go.RowKit Tf
theorem lm1 (a b : Nat) : lm 1 a b = min a b := by unfold lm; simp
theorem lm2 (a b : Nat) : lm 2 a b = sbee a b := by unfold lm; simp
theorem lm3 (a b : Nat) : lm 3 a b = lr a b := by unfold lm; simp
theorem maxB_nn {a b : Nat} (ha : a ≤ 9218868437227405312) (hb : b ≤ 9218868437227405312) : maxB a b = max a b := by
  unfold maxB
  rw [nn_N ha, nn_N hb]
  have e : ∀ x, x ≤ 9218868437227405312 → placeB x = 9223372036854775808 + x := fun x hx => by
    unfold placeB
    rw [ng_of_lt (by omega)]
    simp only [Bool.false_eq_true, if_false]
    exact Nat.add_comm _ _
  simp only [Bool.or_self, Bool.false_eq_true, if_false]
  rw [e a ha, e b hb]
  split <;> omega
theorem rk_dn {p : Nat} (h : p ≤ 9218868437227405312) : rk (p + 9223372036854775808) = -(p : Int) := by
  unfold rk
  rw [ng_of_ge (by omega), if_pos rfl]
  have : mg (p + 9223372036854775808) = p := by unfold mg; omega
  rw [this]
theorem N_dn {p : Nat} (h : p ≤ 9218868437227405312) : isN (p + 9223372036854775808) = false := isN_false.2 (by unfold mg; omega)
theorem feq_own10 {x : Nat} (hx : x < 18446744073709551616) (h : isN x = false) : feq x x = true := by
  rw [feq_rk x x hx hx, h]; simp
theorem feq_dn {p q : Nat} (hp : p ≤ 9218868437227405312) (hq : q ≤ 9218868437227405312) : feq (p + 9223372036854775808) (q + 9223372036854775808) = decide (p = q) := by
  rw [feq_rk _ _ (by omega) (by omega), rk_dn hp, rk_dn hq, N_dn hp, N_dn hq]
  by_cases c : p = q
  · rw [decide_eq_true c, decide_eq_true (by omega)]; rfl
  · rw [decide_eq_false c, decide_eq_false (by omega)]; rfl
theorem op_pos {x : Nat} (h : 0 < x) : op x = x + 9223372036854775808 := by unfold op; rw [if_neg (by omega)]
theorem op_N {x : Nat} (h : x ≤ 9218868437227405312) : isN (op x) = false := by
  unfold op
  split
  · decide
  · exact N_dn h
theorem op_fgt {x : Nat} (h : x ≤ 9218868437227405312) : fgt (op x) 0 = false := by
  have := op_lt h
  rw [fgt_ps (by omega)]
  refine ps_no.2 ?_
  unfold op
  split <;> omega
theorem op_zero {x : Nat} (h : x ≤ 9218868437227405312) (z : feq (op x) 0 = true) : op x = 0 := by
  unfold op at z ⊢
  split
  · rfl
  · rename_i c
    rw [if_neg c, feq_rk _ _ (by omega) (by decide), rk_dn h, rk_zero, decide_eq_false (p := -(x : Int) = 0) (by omega), Bool.and_false] at z
    exact absurd z (by decide)
theorem negB_dn (p : Nat) : negB (p + 9223372036854775808) = p := by
  unfold negB
  rw [ng_of_ge (by omega), if_pos rfl, Nat.add_sub_cancel]
theorem neg_dn {p : Nat} (h : p ≤ 9218868437227405312) : Op.negFloat .f64 (p + 9223372036854775808) = p := by
  rw [negFloat_eq _ (by omega), negB_dn p]
theorem mul_dn {p : Nat} (h : p ≤ 9218868437227405312) : Ieee.double.mul 4611686018427387904 (p + 9223372036854775808) = some (mlB 4611686018427387904 (p + 9223372036854775808)) := by
  have e := two_neg h
  cases k : Ieee.double.mul 4611686018427387904 (p + 9223372036854775808) with
  | none => rw [mlB_none k] at e; unfold quiet at e; omega
  | some r => rw [mlB_some k]
theorem flt_dn {p : Nat} (h : p ≤ 9218868437227405312) (h0 : 0 < p) : flt (p + 9223372036854775808) 0 = true := by
  rw [flt_ns (by omega)]
  exact ns_iff.2 (by omega)
theorem bounds_at (a b : Nat) (w : World) (ha : a < 18446744073709551616) (hb : b < 18446744073709551616) : Calls Try.prog 4 #[.float .f64 a, .float .f64 b] w fun e w' => e = .returned (.bool true) ∧ Below w.heap.size w w' := by
  cases pp : (ps a && ps b)
  · cases n : (ns a && ns b)
    · exact bounds_z a b w pp n ha hb
    · rw [Bool.and_eq_true] at n
      have h1 := ns_iff.1 n.1
      have h2 := ns_iff.1 n.2
      have fa := flt_ns ha
      have fb := flt_ns hb
      have ga := fgt_ps ha
      rw [n.1] at fa
      rw [n.2] at fb
      rw [ns_ps n.1] at ga
      have S := fun k w => slope_at k a b w ha hb
      simp only [slp_n n.1 n.2] at S
      obtain ⟨p, e⟩ : ∃ p, a = p + 9223372036854775808 := ⟨a - 9223372036854775808, by omega⟩
      obtain ⟨q, e'⟩ : ∃ q, b = q + 9223372036854775808 := ⟨b - 9223372036854775808, by omega⟩
      subst e
      subst e'
      simp only [Nat.add_sub_cancel] at S
      have p1 : p ≤ 9218868437227405312 := by omega
      have q1 : q ≤ 9218868437227405312 := by omega
      have p0 : 0 < p := by omega
      have q0 : 0 < q := by omega
      have sf := sbee_facts p1 q1
      have mi : 0 < min p q ∧ min p q ≤ 9218868437227405312 := by omega
      have L := lr_le p q
      have S1 := S 1
      have S2 := S 2
      have S3 := S 3
      rw [lm1] at S1
      rw [lm2] at S2
      rw [lm3] at S3
      have dp := two_neg p1
      have dq := two_neg q1
      have dp1 := (d2_facts p1).1
      have dq1 := (d2_facts q1).1
      have dm := (d2_facts mi.2).1
      have om := op_pos mi.1
      have os := op_pos (x := sbee p q) (by omega)
      refine bounds_d _ _ (op (min p q)) (op (sbee p q)) (op (lr p q)) p q (min p q) (sbee p q) (mlB 4611686018427387904 (p + 9223372036854775808)) (mlB 4611686018427387904 (q + 9223372036854775808)) (maxB p q) (mlB 4611686018427387904 (min p q)) w ga fa fb
        (op_fgt mi.2) (op_fgt (by omega)) (op_fgt (by omega)) S1 S2 S3 (feq_own10 (by omega) (op_N mi.2)) (feq_own10 (by omega) (op_N (by omega))) (feq_own10 (by have := op_lt (x := lr p q) (by omega); omega) (op_N (by omega)))
        (op_zero mi.2) (op_zero (by omega)) (op_zero (by omega)) ?_
        (fun w => mag10_n _ _ w fa (neg_dn p1)) (fun w => mag10_n _ _ w fb (neg_dn q1)) (fun w => mag10_n _ _ w (by rw [om]; exact flt_dn mi.2 mi.1) (by rw [om]; exact neg_dn mi.2)) (fun w => mag10_n _ _ w (by rw [os]; exact flt_dn (by omega) (by omega)) (by rw [os]; exact neg_dn (by omega)))
        (by rw [fgt_nn mi.2 p1]; exact decide_eq_false (by omega)) (by rw [fgt_nn mi.2 q1]; exact decide_eq_false (by omega))
        (fun w => finite10_yes _ w (by have := op_lt (x := lr p q) (by omega); omega) ?_) (fun w t => run_float_arith w .mul t .f64 _ _ _ (mul_dn p1)) (fun w t => run_float_arith w .mul t .f64 _ _ _ (mul_dn q1)) (fun w t => run_float_arith w .mul t .f64 _ _ _ (mul_pp (by decide) mi.2 (by decide) mi.1))
        (fun w => finite10_at _ w (by omega)) (fun w => finite10_at _ w (by omega)) (fun w => max_any p q w (by omega) (by omega)) ?_ ?_ ?_
      · rw [om, feq_dn mi.2 p1, feq_dn mi.2 q1]
        by_cases c : p ≤ q
        · exact .inl (decide_eq_true (by omega))
        · exact .inr ⟨decide_eq_false (by omega), decide_eq_true (by omega)⟩
      · unfold op
        split
        · decide
        · unfold fin
          refine decide_eq_true ?_
          unfold mg
          omega
      · rw [fgt_nn (by omega) mi.2, feq_nn (by omega) mi.2]
        by_cases c : min p q < sbee p q
        · rw [decide_eq_true c]; rfl
        · rw [decide_eq_true (p := sbee p q = min p q) (by omega), Bool.or_true]
      · rw [flt_nn (by omega) dm, feq_nn (by omega) dm]
        by_cases c : sbee p q < mlB 4611686018427387904 (min p q)
        · rw [decide_eq_true c]; rfl
        · rw [decide_eq_true (p := sbee p q = mlB 4611686018427387904 (min p q)) (by omega), Bool.or_true]
      · rw [maxB_nn p1 q1, flt_nn (by omega) (by omega), feq_nn (by omega) (by omega)]
        by_cases c : sbee p q < max p q
        · rw [decide_eq_true c]; rfl
        · rw [decide_eq_true (p := sbee p q = max p q) (by omega), Bool.or_true]
  · rw [Bool.and_eq_true] at pp
    obtain ⟨pa, pb⟩ := pp
    obtain ⟨p0, p1⟩ := ps_iff.1 pa
    obtain ⟨q0, q1⟩ := ps_iff.1 pb
    have fa := fgt_ps ha
    have fb := fgt_ps hb
    have ga := flt_ns ha
    rw [pa] at fa
    rw [pb] at fb
    rw [ps_ns pa] at ga
    have S := fun k w => slope_at k a b w ha hb
    simp only [slp_p pa pb] at S
    have sf := sbee_facts p1 q1
    have mi : 0 < min a b ∧ min a b ≤ 9218868437227405312 := by omega
    have L := lr_le a b
    have S1 := S 1
    have S2 := S 2
    have S3 := S 3
    rw [lm1] at S1
    rw [lm2] at S2
    rw [lm3] at S3
    have dp1 := (d2_facts p1).1
    have dq1 := (d2_facts q1).1
    have dm := (d2_facts mi.2).1
    have nl : ∀ x, x ≤ 9218868437227405312 → flt x 0 = false := fun x hx => by rw [flt_nn hx (by omega)]; exact decide_eq_false (by omega)
    have zz : ∀ x, x ≤ 9218868437227405312 → feq x 0 = true → x = 0 := fun x hx h => by rw [feq_nn hx (by omega), decide_eq_true_iff] at h; exact h
    refine bounds_u a b (min a b) (sbee a b) (lr a b) a b (min a b) (sbee a b) (mlB 4611686018427387904 a) (mlB 4611686018427387904 b) (maxB a b) (mlB 4611686018427387904 (min a b)) w fa fb ga
        (nl _ mi.2) (nl _ (by omega)) (nl _ (by omega)) S1 S2 S3 (feq_own10 (by omega) (nn_N mi.2)) (feq_own10 (by omega) (nn_N (by omega))) (feq_own10 (by omega) (nn_N (by omega)))
        (zz _ mi.2) (zz _ (by omega)) (zz _ (by omega)) ?_
        (fun w => mag10_p _ w ga) (fun w => mag10_p _ w (nl _ q1)) (fun w => mag10_p _ w (nl _ mi.2)) (fun w => mag10_p _ w (nl _ (by omega)))
        (by rw [fgt_nn mi.2 p1]; exact decide_eq_false (by omega)) (by rw [fgt_nn mi.2 q1]; exact decide_eq_false (by omega))
        (fun w => finite10_yes _ w (by omega) ?_) (fun w t => run_float_arith w .mul t .f64 _ _ _ (mul_pp (by decide) p1 (by decide) p0)) (fun w t => run_float_arith w .mul t .f64 _ _ _ (mul_pp (by decide) q1 (by decide) q0)) (fun w t => run_float_arith w .mul t .f64 _ _ _ (mul_pp (by decide) mi.2 (by decide) mi.1))
        (fun w => finite10_at _ w (by omega)) (fun w => finite10_at _ w (by omega)) (fun w => max_any a b w (by omega) (by omega)) ?_ ?_ ?_
    · rw [feq_nn mi.2 p1, feq_nn mi.2 q1]
      by_cases c : a ≤ b
      · exact .inl (decide_eq_true (by omega))
      · exact .inr ⟨decide_eq_false (by omega), decide_eq_true (by omega)⟩
    · unfold fin
      refine decide_eq_true ?_
      rw [mg_of_lt (by omega)]
      exact L
    · rw [fgt_nn (by omega) mi.2, feq_nn (by omega) mi.2]
      by_cases c : min a b < sbee a b
      · rw [decide_eq_true c]; rfl
      · rw [decide_eq_true (p := sbee a b = min a b) (by omega), Bool.or_true]
    · rw [flt_nn (by omega) dm, feq_nn (by omega) dm]
      by_cases c : sbee a b < mlB 4611686018427387904 (min a b)
      · rw [decide_eq_true c]; rfl
      · rw [decide_eq_true (p := sbee a b = mlB 4611686018427387904 (min a b)) (by omega), Bool.or_true]
    · rw [maxB_nn p1 q1, flt_nn (by omega) (by omega), feq_nn (by omega) (by omega)]
      by_cases c : sbee a b < max a b
      · rw [decide_eq_true c]; rfl
      · rw [decide_eq_true (p := sbee a b = max a b) (by omega), Bool.or_true]
end Go.Proofs.Ytgbaaafikphafaa

/-
  Doubled and equal differences: plain numbers, and the statement's walk.
-/
namespace Go.Proofs.Ytgbaaafikphafaa
open Go.RowKit Tf
attribute [local go_sem] run_bits run_from raw_feq raw_fne raw_flt raw_fgt run_neg
def mgB (a : Nat) : Nat := if flt a 0 = true then negB a else a
theorem mag10_at (a : Nat) (w : World) (ha : a < 18446744073709551616) : Calls Try.prog 11 #[.float .f64 a] w fun e w' => e = .returned (.float .f64 (mgB a)) ∧ w' = w := by
  unfold mgB
  cases h : flt a 0
  · exact mag10_p a w h
  · exact mag10_n a _ w h (negFloat_eq a ha)
/-- neither too great nor too small -/
def Gm (a : Nat) : Prop := mg a = 0 ∨ (3110860544497550640 ≤ mg a ∧ mg a ≤ 6103021453049119613)
theorem Gm_of {a : Nat} (ha : a < 18446744073709551616) (h1 : feq a a = true) (h2 : fgt (mgB a) 6103021453049119613 = false) (h3 : feq a 0 = true ∨ (feq a 0 = false ∧ flt (mgB a) 3110860544497550640 = false)) : Gm a := by
  have n : isN a = false := by
    cases k : isN a
    · rfl
    · rw [feq_nan a a (.inl k)] at h1; exact absurd h1 (by decide)
  have hm := isN_false.1 n
  have hw := word_eq a ha
  by_cases z : mg a = 0
  · exact .inl z
  · have f0 : feq a 0 = false := by rw [feq_zero a ha]; exact decide_eq_false z
    have h3 : flt (mgB a) 3110860544497550640 = false := by
      rcases h3 with h3 | h3
      · rw [f0] at h3; exact absurd h3 (by decide)
      · exact h3.2
    have e : mgB a = mg a := by
      unfold mgB
      rw [flt_ns ha]
      cases g : ng a
      · rw [g] at hw
        have hw : a = mg a := by simpa using hw
        rw [ns_no.2 (by omega), if_neg (by decide)]
        exact hw
      · rw [g] at hw
        have hw : a = 9223372036854775808 + mg a := by simpa using hw
        rw [ns_iff.2 (by omega), if_pos rfl, neg_ns (by omega)]
        omega
    rw [e, fgt_nn hm (by decide), decide_eq_false_iff_not] at h2
    rw [e, flt_nn hm (by decide), decide_eq_false_iff_not] at h3
    exact .inr (by omega)
theorem two_op {x : Nat} (h : x ≤ 9218868437227405312) : mlB 4611686018427387904 (op x) = op (mlB 4611686018427387904 x) := by
  by_cases c : x = 0
  · subst c; decide +kernel
  · have d := d2_facts h
    rw [op_pos (by omega), two_neg h, op_pos (by omega)]
theorem two_in {a : Nat} (h1 : 3110860544497550640 ≤ a) (h2 : a ≤ 6103021453049119613) : mlB 4611686018427387904 a = a + 4503599627370496 := by
  rw [two_db (by omega) (md_of (by omega) (by omega)), db_of (by omega) (by omega)]
theorem two_zero : mlB 4611686018427387904 0 = 0 := by decide +kernel
theorem lm_db (k : Int) {a b : Nat} (a1 : 3110860544497550640 ≤ a) (a2 : a ≤ 6103021453049119613) (b1 : 3110860544497550640 ≤ b) (b2 : b ≤ 6103021453049119613) : lm k (a + 4503599627370496) (b + 4503599627370496) = mlB 4611686018427387904 (lm k a b) := by
  have ea : db a = a + 4503599627370496 := db_of (by omega) (by omega)
  have eb : db b = b + 4503599627370496 := db_of (by omega) (by omega)
  have mn : min (a + 4503599627370496) (b + 4503599627370496) = min a b + 4503599627370496 := by omega
  have mi : 3110860544497550640 ≤ min a b ∧ min a b ≤ 6103021453049119613 := by omega
  have si : 3110860544497550640 ≤ sbee a b ∧ sbee a b ≤ 6103021453049119613 := by
    have sf := sbee_facts (a := a) (b := b) (by omega) (by omega)
    omega
  have sd := sbee_db (a := a) (b := b) (by omega) (by omega) (by omega) (by omega)
  obtain ⟨l1, l2, l3⟩ := leer_db a1 a2 b1 b2
  rw [ea, eb] at l1 sd
  rw [db_of (Nat.le_trans (by decide) si.1) (Nat.lt_of_le_of_lt si.2 (by decide))] at sd
  have e2 : db (leer a b) = leer a b + 4503599627370496 := db_of (Nat.le_trans (by decide) l2) (Nat.lt_of_le_of_lt l3 (by decide))
  have e1 : lr a b = leer a b := by unfold lr; rw [if_pos (Nat.lt_of_le_of_lt l3 (by decide))]
  have l4 : leer a b + 4503599627370496 < 9218868437227405312 := Nat.lt_of_le_of_lt (Nat.add_le_add_right l3 _) (by decide)
  have e3 : lr (a + 4503599627370496) (b + 4503599627370496) = leer a b + 4503599627370496 := by unfold lr; rw [l1, e2, if_pos l4]
  have e4 : mlB 4611686018427387904 (leer a b) = leer a b + 4503599627370496 := by
    rw [two_db (Nat.lt_of_le_of_lt l3 (by decide)) (md_of l2 l4), e2]
  clear l1 l2 l3 l4 e2
  unfold lm
  split
  · rw [mn, two_in mi.1 mi.2]
  · split
    · rw [sd, two_in si.1 si.2]
    · split
      · rw [e3, e1, e4]
      · exact two_zero.symm
theorem Gm_class {a : Nat} (ha : a < 18446744073709551616) (h : Gm a) : (mg a = 0 ∧ ps a = false ∧ ns a = false ∧ ps (mlB 4611686018427387904 a) = false ∧ ns (mlB 4611686018427387904 a) = false) ∨
    (3110860544497550640 ≤ a ∧ a ≤ 6103021453049119613 ∧ ps a = true ∧ mlB 4611686018427387904 a = a + 4503599627370496 ∧ ps (a + 4503599627370496) = true) ∨
    (∃ p, a = p + 9223372036854775808 ∧ 3110860544497550640 ≤ p ∧ p ≤ 6103021453049119613 ∧ ns a = true ∧ mlB 4611686018427387904 a = p + 4503599627370496 + 9223372036854775808 ∧ ns (p + 4503599627370496 + 9223372036854775808) = true) := by
  have hw := word_eq a ha
  rcases h with z | ⟨h1, h2⟩
  · refine .inl ?_
    cases g : ng a
    · rw [g, z] at hw
      have hw : a = 0 := by simpa using hw
      subst hw
      rw [two_zero]
      decide
    · rw [g, z] at hw
      have hw : a = 9223372036854775808 := by simpa using hw
      subst hw
      decide +kernel
  · refine .inr ?_
    cases g : ng a
    · rw [g] at hw
      have hw : a = mg a := by simpa using hw
      rw [← hw] at h1 h2
      exact .inl ⟨h1, h2, ps_iff.2 (by omega), two_in h1 h2, ps_iff.2 (by omega)⟩
    · rw [g] at hw
      have hw : a = mg a + 9223372036854775808 := by rw [Nat.add_comm]; simpa using hw
      refine .inr ⟨mg a, hw, h1, h2, ns_iff.2 (by omega), ?_, ns_iff.2 (by omega)⟩
      have e := two_neg (p := mg a) (by omega)
      rw [two_in h1 h2, ← hw] at e
      exact e
theorem slp_two (k : Int) {a b : Nat} (ha : a < 18446744073709551616) (hb : b < 18446744073709551616) (ga : Gm a) (gb : Gm b) : slp k (mlB 4611686018427387904 a) (mlB 4611686018427387904 b) = mlB 4611686018427387904 (slp k a b) := by
  have zero : (ps a && ps b) = false → (ns a && ns b) = false → (ps (mlB 4611686018427387904 a) && ps (mlB 4611686018427387904 b)) = false → (ns (mlB 4611686018427387904 a) && ns (mlB 4611686018427387904 b)) = false → slp k (mlB 4611686018427387904 a) (mlB 4611686018427387904 b) = mlB 4611686018427387904 (slp k a b) := fun h1 h2 h3 h4 => by
    rw [slp_z h3 h4, slp_z h1 h2, two_zero]
  rcases Gm_class ha ga with ⟨-, p1, n1, p2, n2⟩ | ⟨x1, x2, p1, e1, p2⟩ | ⟨p, x0, x1, x2, n1, e1, n2⟩
  · exact zero (by rw [p1]; rfl) (by rw [n1]; rfl) (by rw [p2]; rfl) (by rw [n2]; rfl)
  · rcases Gm_class hb gb with ⟨-, q1, m1, q2, m2⟩ | ⟨y1, y2, q1, f1, q2⟩ | ⟨q, y0, y1, y2, m1, f1, m2⟩
    · exact zero (by rw [q1, Bool.and_false]) (by rw [m1, Bool.and_false]) (by rw [q2, Bool.and_false]) (by rw [m2, Bool.and_false])
    · rw [e1, f1, slp_p p1 q1, slp_p p2 q2]
      exact lm_db k x1 x2 y1 y2
    · exact zero (by rw [ns_ps m1, Bool.and_false]) (by rw [ps_ns p1, Bool.false_and]) (by rw [f1, ns_ps m2, Bool.and_false]) (by rw [e1, ps_ns p2, Bool.false_and])
  · rcases Gm_class hb gb with ⟨-, q1, m1, q2, m2⟩ | ⟨y1, y2, q1, f1, q2⟩ | ⟨q, y0, y1, y2, m1, f1, m2⟩
    · exact zero (by rw [q1, Bool.and_false]) (by rw [m1, Bool.and_false]) (by rw [q2, Bool.and_false]) (by rw [m2, Bool.and_false])
    · exact zero (by rw [ns_ps n1, Bool.false_and]) (by rw [ps_ns q1, Bool.and_false]) (by rw [e1, ns_ps n2, Bool.false_and]) (by rw [f1, ps_ns q2, Bool.and_false])
    · rw [e1, f1, slp_n n1 m1, slp_n n2 m2, x0, y0, Nat.add_sub_cancel, Nat.add_sub_cancel, Nat.add_sub_cancel, Nat.add_sub_cancel, lm_db k x1 x2 y1 y2, two_op (lm_le k (by omega) (by omega))]
theorem slp_eq0 {k : Int} {a : Nat} (ha : a < 18446744073709551616) (h : feq a 0 = true ∨ k ≤ 0 ∨ 3 < k) : slp k a a = 0 := by
  rcases h with h | h
  · rw [feq_zero a ha, decide_eq_true_iff] at h
    have hw := word_eq a ha
    rw [h] at hw
    refine slp_z ?_ ?_
    · rw [ps_no.2 (by cases g : ng a <;> rw [g] at hw <;> simp at hw <;> omega)]; rfl
    · rw [ns_no.2 (by cases g : ng a <;> rw [g] at hw <;> simp at hw <;> omega)]; rfl
  · have z : ∀ x y, lm k x y = 0 := fun x y => by
      unfold lm
      rw [if_neg (by omega), if_neg (by omega), if_neg (by omega)]
    unfold slp op
    rw [z, z]
    simp
theorem slp_eq {k : Int} {a : Nat} (ha : a < 18446744073709551616) (ga : Gm a) (h0 : feq a 0 = false) (hk : k = 1 ∨ k = 2) : slp k a a = a := by
  have key : ∀ x, x ≤ 9218868437227405312 → lm k x x = x := fun x hx => by
    have s := sbee_facts hx hx
    rcases hk with rfl | rfl
    · rw [lm1]; omega
    · rw [lm2]; omega
  rcases Gm_class ha ga with ⟨z, -⟩ | ⟨x1, x2, p1, -⟩ | ⟨p, x0, x1, x2, n1, -⟩
  · rw [feq_zero a ha, decide_eq_false_iff_not] at h0
    exact absurd z h0
  · rw [slp_p p1 p1, key a (by omega)]
  · rw [slp_n n1 n1, x0, Nat.add_sub_cancel, key p (by omega), op_pos (by omega)]
/-- two times a number that is none of the NaNs has an answer -/
theorem mul_two {x : Nat} (hx : x < 18446744073709551616) (n : isN x = false) : Ieee.double.mul 4611686018427387904 x = some (mlB 4611686018427387904 x) := by
  have hm := isN_false.1 n
  have hw := word_eq x hx
  cases g : ng x
  · rw [g] at hw
    have hw : x = mg x := by simpa using hw
    by_cases z : x = 0
    · subst z; decide +kernel
    · exact mul_pp (by decide) (by omega) (by decide) (by omega)
  · rw [g] at hw
    have hw : x = mg x + 9223372036854775808 := by rw [Nat.add_comm]; simpa using hw
    rw [hw]
    exact mul_dn hm
theorem Gm_N {a : Nat} (h : Gm a) : isN a = false := isN_false.2 (by rcases h with h | h <;> omega)
theorem slp_N (k : Int) (a b : Nat) : isN (slp k a b) = false := by
  cases pp : (ps a && ps b)
  · cases n : (ns a && ns b)
    · rw [slp_z pp n]; decide
    · rw [Bool.and_eq_true] at n
      have h1 := ns_iff.1 n.1
      have h2 := ns_iff.1 n.2
      rw [slp_n n.1 n.2]
      exact op_N (lm_le k (by omega) (by omega))
  · rw [Bool.and_eq_true] at pp
    have h1 := ps_iff.1 pp.1
    have h2 := ps_iff.1 pp.2
    rw [slp_p pp.1 pp.2]
    exact nn_N (lm_le k h1.2 h2.2)
set_option maxHeartbeats 16000000 in
theorem scales_go (k : Int) (a b ma mb A2 B2 s u v e0 : Nat) (w : World)
    (MA : Hid (∀ w, Calls Try.prog 11 #[.float .f64 a] w fun e w' => e = .returned (.float .f64 ma) ∧ w' = w))
    (MB : Hid (∀ w, Calls Try.prog 11 #[.float .f64 b] w fun e w' => e = .returned (.float .f64 mb) ∧ w' = w))
    (RA : Hid (feq a a = true → ∀ w t, (binOp .mul t (.float .f64 4611686018427387904) (.float .f64 a)).run Try.prog w = .ok (.float .f64 A2) w))
    (RB : Hid (feq b b = true → ∀ w t, (binOp .mul t (.float .f64 4611686018427387904) (.float .f64 b)).run Try.prog w = .ok (.float .f64 B2) w))
    (RS : ∀ w t, (binOp .mul t (.float .f64 4611686018427387904) (.float .f64 s)).run Try.prog w = .ok (.float .f64 u) w)
    (S1 : Hid (∀ w, Calls Try.prog 7 #[.int .i64 k, .float .f64 a, .float .f64 b] w fun e w' => e = .returned (.float .f64 s) ∧ Below w.heap.size w w'))
    (S2 : Hid (∀ w, Calls Try.prog 7 #[.int .i64 k, .float .f64 A2, .float .f64 B2] w fun e w' => e = .returned (.float .f64 v) ∧ Below w.heap.size w w'))
    (S3 : Hid (∀ w, Calls Try.prog 7 #[.int .i64 k, .float .f64 a, .float .f64 a] w fun e w' => e = .returned (.float .f64 e0) ∧ Below w.heap.size w w'))
    (E1 : Hid (feq a a = true → feq b b = true → fgt ma 6103021453049119613 = false → fgt mb 6103021453049119613 = false → (feq a 0 = true ∨ (feq a 0 = false ∧ flt ma 3110860544497550640 = false)) → (feq b 0 = true ∨ (feq b 0 = false ∧ flt mb 3110860544497550640 = false)) → ∀ w, Calls Try.prog 8 #[.float .f64 v, .float .f64 u] w fun e w' => e = .returned (.bool true) ∧ w' = w))
    (E2 : Hid (feq a 0 = true ∨ k ≤ 0 ∨ 3 < k → ∀ w, Calls Try.prog 8 #[.float .f64 e0, .float .f64 0] w fun e w' => e = .returned (.bool true) ∧ w' = w))
    (E3 : Hid (feq a a = true → feq b b = true → fgt ma 6103021453049119613 = false → fgt mb 6103021453049119613 = false → (feq a 0 = true ∨ (feq a 0 = false ∧ flt ma 3110860544497550640 = false)) → (feq b 0 = true ∨ (feq b 0 = false ∧ flt mb 3110860544497550640 = false)) → feq a 0 = false → (k = 1 ∨ k = 2) → ∀ w, Calls Try.prog 8 #[.float .f64 e0, .float .f64 a] w fun e w' => e = .returned (.bool true) ∧ w' = w)) :
    Calls Try.prog 5 #[.int .i64 k, .float .f64 a, .float .f64 b] w fun e w' => e = .returned (.bool true) ∧ Below w.heap.size w w' := by
  have LV := hid (lives10_at w)
  go_enter Try.func5, Try.ntmps5
  go_wp2_with fail
  refine LV.out.mono ?_
  rintro e w0 ⟨rfl, b0⟩
  have B0 : Hid (Ab w w0) := b0
  clear b0 LV
  cases c1 : feq a a
  · clear RA RB E1 E2 E3
    go_wp2
    go_ret
    exact ⟨rfl, B0.out⟩
  cases c2 : feq b b
  · clear RA RB E1 E2 E3
    go_wp2
    go_ret
    exact ⟨rfl, B0.out⟩
  go_wp2_with fail
  refine (MA.out _).mono ?_
  rintro e w' ⟨rfl, hw⟩
  have hw2 := hw.symm
  subst hw2
  cases c3 : fgt ma 6103021453049119613
  rotate_left
  · clear RA RB E1 E2 E3
    go_wp2
    go_ret
    exact ⟨rfl, B0.out⟩
  go_wp2_with fail
  refine (MB.out _).mono ?_
  rintro e w' ⟨rfl, hw⟩
  have hw2 := hw.symm
  subst hw2
  cases c4 : fgt mb 6103021453049119613
  rotate_left
  · clear RA RB E1 E2 E3
    go_wp2
    go_ret
    exact ⟨rfl, B0.out⟩
  cases c5 : feq a 0
  · go_wp2_with fail
    refine (MA.out _).mono ?_
    rintro e w' ⟨rfl, hw⟩
    have hw2 := hw.symm
    subst hw2
    cases c6 : flt ma 3110860544497550640
    rotate_left
    · clear RA RB E1 E2 E3
      go_wp2
      go_ret
      exact ⟨rfl, B0.out⟩
    cases c7 : feq b 0
    · go_wp2_with fail
      refine (MB.out _).mono ?_
      rintro e w' ⟨rfl, hw⟩
      have hw2 := hw.symm
      subst hw2
      cases c8 : flt mb 3110860544497550640
      rotate_left
      · clear RA RB E1 E2 E3
        go_wp2
        go_ret
        exact ⟨rfl, B0.out⟩
      have SV := hid (E1.out c1 c2 c3 c4 (.inr ⟨c5, c6⟩) (.inr ⟨c7, c8⟩))
      have ra := RA.out c1
      have rb := RB.out c2
      have E4 := hid (E3.out c1 c2 c3 c4 (.inr ⟨c5, c6⟩) (.inr ⟨c7, c8⟩) c5)
      clear E1 E3 RA RB
      go_wp2_with fail
      refine (S1.out _).mono ?_
      rintro e w1 ⟨rfl, b1⟩
      have B1 : Hid (Ab w w1) := Ab.trans B0.out b1
      clear b1
      go_wp2_with fail
      refine (S2.out _).mono ?_
      rintro e w2 ⟨rfl, b2⟩
      have B2 : Hid (Ab w w2) := Ab.trans B1.out b2
      clear b2
      go_wp2_with fail
      refine (SV.out _).mono ?_
      rintro e w' ⟨rfl, hw⟩
      have hw2 := hw.symm
      subst hw2
      go_wp2_with fail
      refine (S3.out _).mono ?_
      rintro e w3 ⟨rfl, b3⟩
      have B3 : Hid (Ab w w3) := Ab.trans B2.out b3
      clear b3
      by_cases k0 : k ≤ 0
      · have SE := hid (E2.out (.inr (.inl k0)))
        clear E2 E4
        go_wp2_with fail
        refine (SE.out _).mono ?_
        rintro e w' ⟨rfl, hw⟩
        have hw2 := hw.symm
        subst hw2
        go_wp2
        go_ret
        exact ⟨rfl, B3.out⟩
      by_cases k3 : 3 < k
      · have SE := hid (E2.out (.inr (.inr k3)))
        clear E2 E4
        go_wp2_with fail
        refine (SE.out _).mono ?_
        rintro e w' ⟨rfl, hw⟩
        have hw2 := hw.symm
        subst hw2
        go_wp2
        go_ret
        exact ⟨rfl, B3.out⟩
      by_cases k4 : k = 3
      · subst k4
        clear E2 E4
        go_wp2
        go_ret
        exact ⟨rfl, B3.out⟩
      have SE := hid (E4.out (by omega))
      clear E2 E4
      go_wp2_with fail
      refine (SE.out _).mono ?_
      rintro e w' ⟨rfl, hw⟩
      have hw2 := hw.symm
      subst hw2
      go_wp2
      go_ret
      exact ⟨rfl, B3.out⟩
    · have SV := hid (E1.out c1 c2 c3 c4 (.inr ⟨c5, c6⟩) (.inl c7))
      have ra := RA.out c1
      have rb := RB.out c2
      have E4 := hid (E3.out c1 c2 c3 c4 (.inr ⟨c5, c6⟩) (.inl c7) c5)
      clear E1 E3 RA RB
      go_wp2_with fail
      refine (S1.out _).mono ?_
      rintro e w1 ⟨rfl, b1⟩
      have B1 : Hid (Ab w w1) := Ab.trans B0.out b1
      clear b1
      go_wp2_with fail
      refine (S2.out _).mono ?_
      rintro e w2 ⟨rfl, b2⟩
      have B2 : Hid (Ab w w2) := Ab.trans B1.out b2
      clear b2
      go_wp2_with fail
      refine (SV.out _).mono ?_
      rintro e w' ⟨rfl, hw⟩
      have hw2 := hw.symm
      subst hw2
      go_wp2_with fail
      refine (S3.out _).mono ?_
      rintro e w3 ⟨rfl, b3⟩
      have B3 : Hid (Ab w w3) := Ab.trans B2.out b3
      clear b3
      by_cases k0 : k ≤ 0
      · have SE := hid (E2.out (.inr (.inl k0)))
        clear E2 E4
        go_wp2_with fail
        refine (SE.out _).mono ?_
        rintro e w' ⟨rfl, hw⟩
        have hw2 := hw.symm
        subst hw2
        go_wp2
        go_ret
        exact ⟨rfl, B3.out⟩
      by_cases k3 : 3 < k
      · have SE := hid (E2.out (.inr (.inr k3)))
        clear E2 E4
        go_wp2_with fail
        refine (SE.out _).mono ?_
        rintro e w' ⟨rfl, hw⟩
        have hw2 := hw.symm
        subst hw2
        go_wp2
        go_ret
        exact ⟨rfl, B3.out⟩
      by_cases k4 : k = 3
      · subst k4
        clear E2 E4
        go_wp2
        go_ret
        exact ⟨rfl, B3.out⟩
      have SE := hid (E4.out (by omega))
      clear E2 E4
      go_wp2_with fail
      refine (SE.out _).mono ?_
      rintro e w' ⟨rfl, hw⟩
      have hw2 := hw.symm
      subst hw2
      go_wp2
      go_ret
      exact ⟨rfl, B3.out⟩
  · cases c7 : feq b 0
    · go_wp2_with fail
      refine (MB.out _).mono ?_
      rintro e w' ⟨rfl, hw⟩
      have hw2 := hw.symm
      subst hw2
      cases c8 : flt mb 3110860544497550640
      rotate_left
      · clear RA RB E1 E2 E3
        go_wp2
        go_ret
        exact ⟨rfl, B0.out⟩
      have SV := hid (E1.out c1 c2 c3 c4 (.inl c5) (.inr ⟨c7, c8⟩))
      have ra := RA.out c1
      have rb := RB.out c2
      clear E1 E3 RA RB
      go_wp2_with fail
      refine (S1.out _).mono ?_
      rintro e w1 ⟨rfl, b1⟩
      have B1 : Hid (Ab w w1) := Ab.trans B0.out b1
      clear b1
      go_wp2_with fail
      refine (S2.out _).mono ?_
      rintro e w2 ⟨rfl, b2⟩
      have B2 : Hid (Ab w w2) := Ab.trans B1.out b2
      clear b2
      go_wp2_with fail
      refine (SV.out _).mono ?_
      rintro e w' ⟨rfl, hw⟩
      have hw2 := hw.symm
      subst hw2
      go_wp2_with fail
      refine (S3.out _).mono ?_
      rintro e w3 ⟨rfl, b3⟩
      have B3 : Hid (Ab w w3) := Ab.trans B2.out b3
      clear b3
      have SE := hid (E2.out (.inl c5))
      clear E2
      go_wp2_with fail
      refine (SE.out _).mono ?_
      rintro e w' ⟨rfl, hw⟩
      have hw2 := hw.symm
      subst hw2
      go_wp2
      go_ret
      exact ⟨rfl, B3.out⟩
    · have SV := hid (E1.out c1 c2 c3 c4 (.inl c5) (.inl c7))
      have ra := RA.out c1
      have rb := RB.out c2
      clear E1 E3 RA RB
      go_wp2_with fail
      refine (S1.out _).mono ?_
      rintro e w1 ⟨rfl, b1⟩
      have B1 : Hid (Ab w w1) := Ab.trans B0.out b1
      clear b1
      go_wp2_with fail
      refine (S2.out _).mono ?_
      rintro e w2 ⟨rfl, b2⟩
      have B2 : Hid (Ab w w2) := Ab.trans B1.out b2
      clear b2
      go_wp2_with fail
      refine (SV.out _).mono ?_
      rintro e w' ⟨rfl, hw⟩
      have hw2 := hw.symm
      subst hw2
      go_wp2_with fail
      refine (S3.out _).mono ?_
      rintro e w3 ⟨rfl, b3⟩
      have B3 : Hid (Ab w w3) := Ab.trans B2.out b3
      clear b3
      have SE := hid (E2.out (.inl c5))
      clear E2
      go_wp2_with fail
      refine (SE.out _).mono ?_
      rintro e w' ⟨rfl, hw⟩
      have hw2 := hw.symm
      subst hw2
      go_wp2
      go_ret
      exact ⟨rfl, B3.out⟩
theorem scales_at (k : Int) (a b : Nat) (w : World) (ha : a < 18446744073709551616) (hb : b < 18446744073709551616) : Calls Try.prog 5 #[.int .i64 k, .float .f64 a, .float .f64 b] w fun e w' => e = .returned (.bool true) ∧ Below w.heap.size w w' := by
  have nn : ∀ x, feq x x = true → isN x = false := fun x h => by
    cases n : isN x
    · rfl
    · rw [feq_nan x x (.inl n)] at h; exact absurd h (by decide)
  refine scales_go k a b (mgB a) (mgB b) (mlB 4611686018427387904 a) (mlB 4611686018427387904 b) (slp k a b) (mlB 4611686018427387904 (slp k a b)) (slp k (mlB 4611686018427387904 a) (mlB 4611686018427387904 b)) (slp k a a) w
    (fun w => mag10_at a w ha) (fun w => mag10_at b w hb) (fun h w t => run_float_arith w .mul t .f64 _ _ _ (mul_two ha (nn a h))) (fun h w t => run_float_arith w .mul t .f64 _ _ _ (mul_two hb (nn b h)))
    (fun w t => run_float_arith w .mul t .f64 _ _ _ (mul_two (slp_lt k a b) (slp_N k a b))) (fun w => slope_at k a b w ha hb) (fun w => slope_at k _ _ w (mlB_lt (by decide) ha) (mlB_lt (by decide) hb)) (fun w => slope_at k a a w ha ha)
    (fun h1 h2 h3 h4 h5 h6 w => same10_yes _ _ w (slp_two k ha hb (Gm_of ha h1 h3 h5) (Gm_of hb h2 h4 h6))) (fun h w => same10_yes _ _ w (slp_eq0 ha h)) (fun h1 _ h3 _ h5 _ h7 h8 w => same10_yes _ _ w (slp_eq ha (Gm_of ha h1 h3 h5) h7 h8))
end Go.Proofs.Ytgbaaafikphafaa
