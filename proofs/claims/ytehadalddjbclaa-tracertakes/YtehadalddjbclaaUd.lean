/-
  Parts: the walk over the reference.
-/
import Derived.Test.YtehadalddjbclaaUc
namespace Go.Proofs.Ytehadalddjbclaa
open Go.RowKit
set_option maxRecDepth 100000 in
set_option maxHeartbeats 4000000 in
theorem rpart14_go (x y z h l p : Int) (w : World) (hx : 0 ≤ x) (hy : 0 ≤ y) (hz : 0 < z)
    (PR : Hid (∀ v, Calls Try.prog 13 #[.int .u64 x, .int .u64 y] v fun e w' => e = .returned (.tuple #[.int .u64 h, .int .u64 l]) ∧ w' = v))
    (HZ2 : Hid (z < 9223372036854775808)) (HL : Hid (0 ≤ h ∧ 0 ≤ l ∧ l < 18446744073709551616)) (HP : Hid (x * y = h * 18446744073709551616 + l)) (x2 : x < 9223372036854775808) (y2 : y < 9223372036854775808)
    (HPP : Hid (p = if 9223372036854775807 < x * y / z then 9223372036854775807 else x * y / z)) (h2 : h < 4611686018427387904) :
    Calls Try.prog 10 #[.int .i64 x, .int .i64 y, .int .i64 z] w fun e w' => e = .returned (.int .i64 p) ∧ w' = w := by
  have f1 : decide (x < 0) = false := by rw [decide_eq_false_iff_not]; omega
  have f2 : decide (y < 0) = false := by rw [decide_eq_false_iff_not]; omega
  have f3 : decide (z ≤ 0) = false := by rw [decide_eq_false_iff_not]; omega
  have wz : IntKind.u64.wrap z = z := by rw [Sh.wrapu]; have := HZ2.out; omega
  have HZ := hid hz
  have HP0 : Hid (0 ≤ x * y) := Int.mul_nonneg hx hy
  have ST : Hid (Sh.PI (x * y) z 128 0 0) := by
    have e : (2 : Int) ^ 128 = 340282366920938463463374607431768211456 := by decide
    have b : x * y / 2 ^ 128 = 0 := by
      rw [HP.out, e]
      have := HL.out
      omega
    refine ⟨by rw [b]; simp, by rw [b]; simp, fun _ => rfl, fun h => by omega⟩
  clear h2
  go_enter Try.func10, Try.ntmps10
  go_wp2_with fail
  refine (PR.out _).mono ?_
  rintro e9 v ⟨rfl, hv⟩
  have hv2 := hv.symm
  subst hv2
  go_wp2
  go_loopw [9, 10, 11] (fun qv rv iv w8 => ∃ (q r i : Int), iv = .int .i64 i ∧ qv = .int .u64 q ∧ rv = .int .u64 r ∧ -1 ≤ i ∧ i ≤ 127 ∧ Sh.PI (x * y) z (i + 1).toNat q r ∧ w8 = w) (fun _ _ iv _ => (intOf iv + 1).toNat)
  case atStart => exact ⟨0, 0, 127, rfl, rfl, rfl, by omega, by omega, ST.out, rfl⟩
  case round =>
    obtain ⟨q, r, i, rfl, rfl, rfl, i0, i1, iv, hw8⟩ := hrel
    have hw9 := hw8.symm
    subst hw9
    have IV0 := hid iv
    clear iv ST
    by_cases hi : 0 ≤ i
    · obtain ⟨k, rfl⟩ := Int.eq_ofNat_of_zero_le hi
      have IV : Hid (Sh.PI (x * y) z (k + 1) q r) := by have h := IV0.out; rwa [show ((k : Int) + 1).toNat = k + 1 by omega] at h
      clear IV0
      by_cases k63 : 63 < (k : Int)
      · have g1 : decide ((63 : Int) < (k : Int)) = true := decide_eq_true k63
        obtain ⟨m, hm⟩ : ∃ m, ((k : Nat) : Int).tmod 64 = m := ⟨_, rfl⟩
        have mk : m.toNat = k - 64 ∧ 0 ≤ m ∧ m < 64 := by rw [← hm, Sh.tmod_e (by omega)]; omega
        have m1 := mk.2.1
        have m2 := mk.2.2
        obtain ⟨b, hb⟩ : ∃ b, (h / 2 ^ m.toNat).tmod 2 = b := ⟨_, rfl⟩
        have BB : Hid (x * y / 2 ^ k % 2 = b) := by
          show _ = _
          rw [← hb, mk.1, Sh.tmod_e (Int.ediv_nonneg (by have := HL.out; omega) (by have := Sh.pow_pos' (k - 64); omega)), HP.out]
          exact Sh.bit_hi ⟨by have := HL.out; omega, by have := HL.out; omega⟩ (by omega)
        have b01 : 0 ≤ b ∧ b ≤ 1 := by rw [← BB.out]; omega
        have rr := IV.out.rest HZ.out
        have z2' := HZ2.out
        have hw : IntKind.u64.wrap (IntKind.u64.wrap (2 * r) + b) = 2 * r + b := by rw [Sh.wrapu, Sh.wrapu]; omega
        have B01 := hid b01
        clear mk b01 rr z2'
        by_cases one : z ≤ 2 * r + b
        · have g2 : decide (z ≤ 2 * r + b) = true := decide_eq_true one
          have g3 : decide ((62 : Int) < (k : Int)) = true := decide_eq_true (by omega)
          have PM : Hid (9223372036854775807 = p) := by
            have o := Sh.PI.over HZ.out (by omega) IV.out (by rw [BB.out]; omega)
            have hp' := HPP.out
            show _ = _
            rw [hp', if_pos (by omega)]
          go_wp2
          go_ret
          exact ⟨by first | rfl | (rw [PM.out]; rfl), by first | trivial | rfl⟩
        · have g2 : decide (z ≤ 2 * r + b) = false := decide_eq_false one
          have g3 : decide ((62 : Int) < (k : Int)) = true := decide_eq_true (by omega)
          have NX0 := hid (Sh.PI.zero HZ.out IV.out (by rw [BB.out]; omega))
          rw [BB.out] at NX0
          have NX := NX0
          clear NX0
          go_wp2
          exact ⟨⟨_, _, _, rfl, rfl, rfl, by omega, by omega, by rw [show ((k : Int) - 1 + 1).toNat = k by omega]; exact NX.out, by first | trivial | rfl⟩, by simp [intOf] <;> omega⟩
      · have g1 : decide ((63 : Int) < (k : Int)) = false := decide_eq_false k63
        obtain ⟨m, hm⟩ : ∃ m, ((k : Nat) : Int).tmod 64 = m := ⟨_, rfl⟩
        have mk : m.toNat = k ∧ 0 ≤ m ∧ m < 64 := by rw [← hm, Sh.tmod_e (by omega)]; omega
        have m1 := mk.2.1
        have m2 := mk.2.2
        obtain ⟨b, hb⟩ : ∃ b, (l / 2 ^ m.toNat).tmod 2 = b := ⟨_, rfl⟩
        have BB : Hid (x * y / 2 ^ k % 2 = b) := by
          show _ = _
          rw [← hb, mk.1, Sh.tmod_e (Int.ediv_nonneg (by have := HL.out; omega) (by have := Sh.pow_pos' k; omega)), HP.out]
          exact Sh.bit_lo (by omega)
        have b01 : 0 ≤ b ∧ b ≤ 1 := by rw [← BB.out]; omega
        have rr := IV.out.rest HZ.out
        have z2' := HZ2.out
        have hw : IntKind.u64.wrap (IntKind.u64.wrap (2 * r) + b) = 2 * r + b := by rw [Sh.wrapu, Sh.wrapu]; omega
        have B01 := hid b01
        clear mk b01 rr z2'
        by_cases one : z ≤ 2 * r + b
        · have g2 : decide (z ≤ 2 * r + b) = true := decide_eq_true one
          by_cases k62 : 62 < (k : Int)
          · have g3 : decide ((62 : Int) < (k : Int)) = true := decide_eq_true k62
            have PM : Hid (9223372036854775807 = p) := by
              have o := Sh.PI.over HZ.out (by omega) IV.out (by rw [BB.out]; omega)
              have hp' := HPP.out
              show _ = _
              rw [hp', if_pos (by omega)]
            go_wp2
            go_ret
            exact ⟨by first | rfl | (rw [PM.out]; rfl), by first | trivial | rfl⟩
          · have g3 : decide ((62 : Int) < (k : Int)) = false := decide_eq_false k62
            have NX0 := hid (Sh.PI.one HZ.out (by omega) IV.out (by rw [BB.out]; exact one))
            rw [BB.out] at NX0
            have qq := NX0.out.qle HP0.out HZ.out
            have q4 := IV.out.2.2.2 (by omega)
            have q0 := (IV.out.qle HP0.out HZ.out).1
            have pk := Sh.pow_pos' k
            have hs : IntKind.u64.wrap (2 ^ k) = 2 ^ k := by rw [Sh.wrapu]; omega
            have hq : IntKind.u64.wrap (q + 2 ^ k) = q + 2 ^ k := by rw [Sh.wrapu]; omega
            have hr : IntKind.u64.wrap (2 * r + b - z) = 2 * r + b - z := by rw [Sh.wrapu]; have := IV.out.rest HZ.out; have := HZ2.out; have := B01.out; omega
            have NX := NX0
            clear qq q4 q0 NX0
            go_wp2
            exact ⟨⟨_, _, _, rfl, rfl, rfl, by omega, by omega, by rw [show ((k : Int) - 1 + 1).toNat = k by omega]; exact NX.out, by first | trivial | rfl⟩, by simp [intOf] <;> omega⟩
        · have g2 : decide (z ≤ 2 * r + b) = false := decide_eq_false one
          have NX0 := hid (Sh.PI.zero HZ.out IV.out (by rw [BB.out]; omega))
          rw [BB.out] at NX0
          have NX := NX0
          clear NX0
          go_wp2
          exact ⟨⟨_, _, _, rfl, rfl, rfl, by omega, by omega, by rw [show ((k : Int) - 1 + 1).toNat = k by omega]; exact NX.out, by first | trivial | rfl⟩, by simp [intOf] <;> omega⟩
    · have e : i = -1 := by omega
      subst e
      have PQ : Hid (q = p ∧ 0 ≤ q ∧ q < 9223372036854775808) := by
        obtain ⟨-, h2, -, h4⟩ := IV0.out
        have h5 := h4 (by decide)
        have h6 : q = x * y / z := by
          rw [h2]
          simp
        have h7 : 0 ≤ x * y / z := Int.ediv_nonneg HP0.out (by have := HZ.out; omega)
        refine ⟨?_, by omega, by omega⟩
        rw [h6, HPP.out, if_neg (by omega)]
      have q0 := PQ.out.2.1
      have q1 := PQ.out.2.2
      go_wp2
      go_ret
      refine ⟨?_, by first | trivial | rfl⟩
      rw [PQ.out.1]
      rfl
end Go.Proofs.Ytehadalddjbclaa
