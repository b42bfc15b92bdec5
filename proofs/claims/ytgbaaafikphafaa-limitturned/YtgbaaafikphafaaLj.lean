/-
  Exchanged and opposite differences: the statement's walk.
-/
import Derived.Test.YtgbaaafikphafaaZ06
namespace Go.Proofs.Ytgbaaafikphafaa
open Go.RowKit Tf
attribute [local go_sem] run_bits run_from raw_feq raw_fne raw_flt raw_fgt run_neg
set_option maxHeartbeats 4000000 in
theorem turned_at (a b : Nat) (w : World) (ha : a < 18446744073709551616) (hb : b < 18446744073709551616) : Calls Try.prog 3 #[.float .f64 a, .float .f64 b] w fun e w' => e = .returned (.bool true) ∧ Below w.heap.size w w' := by
  have HA := hid ha
  have HB := hid hb
  have M2 : Hid (∀ (x : Nat) (w : World), x < 18446744073709551616 → ∃ r n, (∀ t, (binOp .mul t (.float .f64 4611686018427387904) (.float .f64 x)).run Try.prog w = .ok (.float .f64 r) (w.drewN n)) ∧ r < 18446744073709551616 ∧ fin r = fin (mlB 4611686018427387904 x)) := fun x w hx => by
    obtain ⟨r, n, h, q⟩ := mul_any (P := Try.prog) w 4611686018427387904 _ x _ (IsQ.self (by decide)) (IsQ.self hx)
    refine ⟨r, n, h, q.1, ?_⟩
    rw [fin_q q]
    unfold mlB
    rw [mul_ql, mul_qr]
  have LV := hid (lives10_at w)
  have SL : Hid (∀ (k : Int) (w : World), ∃ s u v, (∀ w, Calls Try.prog 7 #[.int .i64 k, .float .f64 a, .float .f64 b] w fun e w' => e = .returned (.float .f64 s) ∧ Below w.heap.size w w')
      ∧ (∀ w, Calls Try.prog 7 #[.int .i64 k, .float .f64 (Op.negFloat .f64 a), .float .f64 (Op.negFloat .f64 b)] w fun e w' => e = .returned (.float .f64 u) ∧ Below w.heap.size w w')
      ∧ (∀ w, Calls Try.prog 7 #[.int .i64 k, .float .f64 b, .float .f64 a] w fun e w' => e = .returned (.float .f64 v) ∧ Below w.heap.size w w')
      ∧ (∀ w, Calls Try.prog 9 #[.float .f64 (Op.negFloat .f64 s)] w fun e w' => e = .returned (.float .f64 u) ∧ w' = w)
      ∧ ((k = 3 → fin (mlB 4611686018427387904 a) = true ∧ fin (mlB 4611686018427387904 b) = true) → v = s)) := fun k w => by
    refine ⟨slp k a b, slp k (negB a) (negB b), slp k b a, fun w => slope_at k a b w ha hb, fun w => ?_, fun w => slope_at k b a w hb ha, fun w => ?_, fun h => slp_comm h⟩
    · rw [negFloat_eq a ha, negFloat_eq b hb]
      exact slope_at k _ _ w (negB_lt ha) (negB_lt hb)
    · rw [negFloat_eq _ (slp_lt k a b), slp_neg k ha hb]
      exact canon_any _ w (negB_lt (slp_lt k a b))
  clear ha hb
  go_enter Try.func3, Try.ntmps3
  go_wp2_with fail
  refine LV.out.mono ?_
  rintro e w0 ⟨rfl, b0⟩
  have B0 := hid b0
  clear b0 LV
  go_wp2
  go_loopw [5] (fun iv wr => ∃ k : Nat, k ≤ 4 ∧ iv = .int .i64 (k : Nat) ∧ Ab w wr) (fun iv _ => 4 - (intOf iv).toNat)
  case atStart => exact ⟨0, by omega, rfl, B0.out⟩
  case round =>
    obtain ⟨k, hk, rfl, A⟩ := hrel
    have A0 := hid A
    clear A B0
    by_cases h4 : k = 4
    · subst h4
      go_wp2
      go_ret
      exact ⟨rfl, A0.out⟩
    have hk3 : (k : Int) ≤ 3 := by omega
    obtain ⟨s, u, v, c1, c2, c3, c4, c5⟩ := SL.out k wr
    have C1 := hid c1
    have C2 := hid c2
    have C3 := hid c3
    have C4 := hid c4
    have C5 := hid c5
    clear c1 c2 c3 c4 c5 SL
    have S1 : Hid (∀ w, Calls Try.prog 8 #[.float .f64 u, .float .f64 u] w fun e w' => e = .returned (.bool true) ∧ w' = w) := fun w => same10_yes u u w rfl
    have S2 := hid (same10_yes v s)
    go_wp2_with fail
    refine (C1.out _).mono ?_
    rintro e w1 ⟨rfl, b1⟩
    have A1 : Hid (Ab w w1) := Ab.trans A0.out b1
    clear b1
    go_wp2_with fail
    refine (C2.out _).mono ?_
    rintro e w2 ⟨rfl, b2⟩
    have A2 : Hid (Ab w w2) := Ab.trans A1.out b2
    clear b2
    go_wp2_with fail
    refine (C4.out _).mono ?_
    rintro e w' ⟨rfl, hw⟩
    have hw2 := hw.symm
    subst hw2
    go_wp2_with fail
    refine (S1.out _).mono ?_
    rintro e w' ⟨rfl, hw⟩
    have hw2 := hw.symm
    subst hw2
    by_cases h3 : k = 3
    · subst h3
      obtain ⟨x, n, x1, x2, x3⟩ := M2.out a w2 HA.out
      have F1 := finite10_at x (w2.drewN n) x2
      rw [x3] at F1
      have F1 := hid F1
      clear x2 x3
      cases f1 : fin (mlB 4611686018427387904 a)
      · rw [f1] at F1
        clear C5 f1
        go_wp2_with fail
        refine F1.out.mono ?_
        rintro e w' ⟨rfl, m, rfl⟩
        go_wp2
        go_roundw
        case rel => exact ⟨4, by omega, by simp, Ab.drewN A2.out (n + m)⟩
        case measure => simp [intOf]
      · rw [f1] at F1
        have FA := hid f1
        clear f1
        go_wp2_with fail
        refine F1.out.mono ?_
        rintro e w' ⟨rfl, m, rfl⟩
        obtain ⟨y, l, y1, y2, y3⟩ := M2.out b (w2.drewN (n + m)) HB.out
        have F2 := finite10_at y (w2.drewN (n + m + l)) y2
        rw [y3] at F2
        rw [World.drewN_drewN] at y1
        have F2 := hid F2
        clear y2 y3
        cases f2 : fin (mlB 4611686018427387904 b)
        · rw [f2] at F2
          clear C5 f2
          go_wp2_with fail
          refine F2.out.mono ?_
          rintro e w' ⟨rfl, j, rfl⟩
          go_wp2
          go_roundw
          case rel => exact ⟨4, by omega, by simp, Ab.drewN A2.out (n + m + l + j)⟩
          case measure => simp [intOf]
        · rw [f2] at F2
          have E := hid (C5.out fun _ => ⟨FA.out, f2⟩)
          clear C5 f2
          go_wp2_with fail
          refine F2.out.mono ?_
          rintro e w' ⟨rfl, j, rfl⟩
          go_wp2_with fail
          refine (C3.out _).mono ?_
          rintro e w3 ⟨rfl, b3⟩
          have A3 : Hid (Ab w w3) := Ab.trans (Ab.drewN A2.out (n + m + l + j)) b3
          clear b3
          go_wp2_with fail
          refine (S2.out _ E.out).mono ?_
          rintro e w' ⟨rfl, hw⟩
          have hw2 := hw.symm
          subst hw2
          go_wp2
          go_roundw
          case rel => exact ⟨4, by omega, by simp, A3.out⟩
          case measure => simp [intOf]
    · have E := hid (C5.out fun e => absurd e (by omega))
      have h3' : ((k : Int) == 3) = false := by simp; omega
      have h3'' : ¬ ((k : Int) = 3) := by omega
      clear C5
      go_wp2_with fail
      refine (C3.out _).mono ?_
      rintro e w3 ⟨rfl, b3⟩
      have A3 : Hid (Ab w w3) := Ab.trans A2.out b3
      clear b3
      go_wp2_with fail
      refine (S2.out _ E.out).mono ?_
      rintro e w' ⟨rfl, hw⟩
      have hw2 := hw.symm
      subst hw2
      go_wp2
      go_roundw
      case rel => exact ⟨k + 1, by omega, by simp, A3.out⟩
      case measure => simp [intOf]; omega
end Go.Proofs.Ytgbaaafikphafaa
