/-
  Some of the texts of this proof, one behind the other.
-/
import Derived.Test.YtidmgnllphnbbaaGreatDoorZ13
namespace Go.Proofs.YtidmgnllphnbbaaGreatDoor
open Go.RowKit Go.Deep
namespace Sh
/-- both words moved up -/
theorem up_words {hi lo S P : Int} (hSP : S * P = 18446744073709551616) (hS : 0 < S) (hP : 0 < P) (hl : 0 ≤ lo) (hl2 : lo < 18446744073709551616) :
    0 ≤ lo / P ∧ lo / P < S ∧ (hi * S + lo / P) * 18446744073709551616 + lo * S % 18446744073709551616 = (hi * 18446744073709551616 + lo) * S := by
  have d := Int.mul_ediv_add_emod lo P
  have m0 := Int.emod_nonneg lo (show P ≠ 0 by omega)
  have m1 := Int.emod_lt_of_pos lo hP
  have q0 : 0 ≤ lo / P := Int.ediv_nonneg hl (by omega)
  have q1 : lo / P < S := Int.ediv_lt_of_lt_mul hP (by rw [hSP]; exact hl2)
  refine ⟨q0, q1, ?_⟩
  generalize lo / P = a at *
  generalize lo % P = b at *
  have e : lo * S = a * 18446744073709551616 + b * S := by
    rw [← d, ← hSP, Int.add_mul]
    congr 1
    ac_rfl
  have b0 : 0 ≤ b * S := Int.mul_nonneg m0 (by omega)
  have b1 : b * S < 18446744073709551616 := by
    rw [← hSP, Int.mul_comm S P]
    exact Int.mul_lt_mul_of_pos_right m1 hS
  have f : hi * 18446744073709551616 * S = hi * S * 18446744073709551616 := by ac_rfl
  rw [Int.add_mul, Int.add_mul, f, e]
  generalize hi * S = g at *
  generalize b * S = h at *
  omega
/-- two digits make the quotient -/
theorem two_digits {X Y U V u0 : Int} (hY : 0 < Y) (hX : X = U * 4294967296 + u0) (hV : V = U % Y * 4294967296 + u0) : U / Y * 4294967296 + V / Y = X / Y := by
  have d := Int.mul_ediv_add_emod U Y
  generalize U / Y = q at *
  generalize U % Y = r at *
  have e : X = V + Y * (q * 4294967296) := by
    have : Y * (q * 4294967296) = Y * q * 4294967296 := by ac_rfl
    omega
  rw [e, Int.add_mul_ediv_left _ _ (by omega)]
  omega
/-- the first guess -/
theorem guess {u a : Int} (ha : 0 < a) (hu : 0 ≤ u) (hu2 : u < 18446744073709551616) : 0 ≤ u / a ∧ u / a < 18446744073709551616 ∧ IntKind.u64.wrap (u - IntKind.u64.wrap (u / a * a)) = u - u / a * a ∧ 0 ≤ u - u / a * a ∧ u - u / a * a < a := by
  have d := Int.mul_ediv_add_emod u a
  have m0 := Int.emod_nonneg u (show a ≠ 0 by omega)
  have m1 := Int.emod_lt_of_pos u ha
  have q0 : 0 ≤ u / a := Int.ediv_nonneg hu (by omega)
  have q1 : u / a ≤ u := Int.ediv_le_self _ hu
  have t : 0 ≤ a * (u / a) := Int.mul_nonneg (by omega) q0
  rw [Int.mul_comm] at d t
  generalize u / a * a = p at *
  refine ⟨q0, by omega, ?_, by omega, by omega⟩
  rw [wrapu, wrapu]
  omega
theorem div_pos_at (hi lo y : Int) (w : World) (h0 : 0 < hi) (hy : hi < y) (hy2 : y < 9223372036854775808) (hl : 0 ≤ lo) (hl2 : lo < 18446744073709551616) :
    Calls Tryz.prog 40 #[.int .u64 hi, .int .u64 lo, .int .u64 y] w fun e w' => (∃ r, e = .returned (.tuple #[.int .u64 ((hi * 18446744073709551616 + lo) / y), .int .u64 r])) ∧ w' = w := by
  obtain ⟨n, rfl⟩ := Int.eq_ofNat_of_zero_le (show 0 ≤ y by omega)
  have n0 : n ≠ 0 := by omega
  have b1 := Nat.log2_self_le n0
  have b2 := Nat.lt_log2_self (n := n)
  have b3 : n.log2 < 63 := (Nat.log2_lt n0).2 (by omega)
  have b4 : 0 < n.log2 := by
    rcases Nat.eq_zero_or_pos n.log2 with z | z
    · rw [z] at b2; omega
    · exact z
  obtain ⟨k, hk⟩ : ∃ k : Nat, n.log2 + 1 + k = 64 := ⟨63 - n.log2, by omega⟩
  have LZ : ∀ v, Calls Tryz.prog 55 #[.int .u64 (n : Int)] v fun e w' => e = .returned (.int .i64 (k : Int)) ∧ w' = v := fun v => by
    have h := lead_at n v (by omega) (by omega)
    rwa [show (64 : Int) - ((n.log2 + 1 : Nat) : Int) = (k : Int) by omega] at h
  have hSPn : 2 ^ k * 2 ^ (64 - k) = 18446744073709551616 := by rw [← Nat.pow_add, show k + (64 - k) = 64 by omega]
  have Yl : 9223372036854775808 ≤ n * 2 ^ k := by
    have h := Nat.mul_le_mul_right (2 ^ k) b1
    rw [← Nat.pow_add, show n.log2 + k = 63 by omega] at h
    exact h
  have Yh : n * 2 ^ k < 18446744073709551616 := by
    have h := Nat.mul_lt_mul_of_pos_right b2 (pow_pos k)
    rw [← Nat.pow_add, hk] at h
    exact h
  have hk0 : 0 < k := by omega
  have hk1 : k < 64 := by omega
  have tk : ((k : Nat) : Int).toNat = k := Int.toNat_natCast k
  have tk2 : (64 - ((k : Nat) : Int)).toNat = 64 - k := by omega
  have hS : (0 : Int) < 2 ^ k := pow_pos' k
  have hP : (0 : Int) < 2 ^ (64 - k) := pow_pos' _
  have hSP : (2 : Int) ^ k * 2 ^ (64 - k) = 18446744073709551616 := by rw [two_pow_cast, two_pow_cast, ← Int.natCast_mul, hSPn]; rfl
  have Yl' : (9223372036854775808 : Int) ≤ (n : Int) * 2 ^ k := by rw [two_pow_cast, ← Int.natCast_mul]; omega
  have Yh' : (n : Int) * 2 ^ k < 18446744073709551616 := by rw [two_pow_cast, ← Int.natCast_mul]; omega
  obtain ⟨up0, up1, up2⟩ := up_words (hi := hi) hSP hS hP hl hl2
  have hhS : hi * 2 ^ k + 2 ^ k ≤ (n : Int) * 2 ^ k := by
    have h : (hi + 1) * 2 ^ k ≤ (n : Int) * 2 ^ k := Int.mul_le_mul_of_nonneg_right (by omega) (by omega)
    rwa [Int.add_mul, Int.one_mul] at h
  have hh0 : 0 ≤ hi * 2 ^ k := Int.mul_nonneg (by omega) (by omega)
  have eu : bits .or .u64 (IntKind.u64.wrap (hi * 2 ^ k)) (lo / 2 ^ (64 - k)) = hi * 2 ^ k + lo / 2 ^ (64 - k) := by
    rw [wrapu, Int.emod_eq_of_lt hh0 (by omega)]
    obtain ⟨h, rfl⟩ := Int.eq_ofNat_of_zero_le (show 0 ≤ hi by omega)
    obtain ⟨l, hlq⟩ := Int.eq_ofNat_of_zero_le up0
    rw [hlq] at up1 ⊢
    have hl1 : l < 2 ^ k := by rw [two_pow_cast] at up1; omega
    have hb : h * 2 ^ k + l < 18446744073709551616 := by
      rw [two_pow_cast, ← Int.natCast_mul] at hhS Yh'
      omega
    have o := or_add h l k hl1 hb
    rw [two_pow_cast, ← Int.natCast_mul, o]
    omega
  have fin : (hi * 18446744073709551616 + lo) / n = (hi * 18446744073709551616 + lo) * 2 ^ k / (n * 2 ^ k) := (Int.mul_ediv_mul_of_pos_left _ _ hS).symm
  rw [fin, ← up2]
  have eY : IntKind.u64.wrap ((n : Int) * 2 ^ k) = n * 2 ^ k := by rw [wrapu]; omega
  have el : IntKind.u64.wrap (lo * 2 ^ k) = lo * 2 ^ k % 18446744073709551616 := wrapu _
  have m10 : 0 ≤ lo * 2 ^ k % 18446744073709551616 ∧ lo * 2 ^ k % 18446744073709551616 < 18446744073709551616 := by omega
  have key := div_go hi lo n k
  rw [tk, tk2, eu, eY, el] at key
  have hu1 : hi * 2 ^ k + lo / 2 ^ (64 - k) < n * 2 ^ k := by omega
  have hu0 : 0 ≤ hi * 2 ^ k + lo / 2 ^ (64 - k) := by omega
  clear fin eY el eu up2 up0 up1 hhS hh0 hSP hSPn Yl Yh tk tk2 b1 b2 b3 hS hP
  generalize hi * 2 ^ k + lo / 2 ^ (64 - k) = u32 at *
  generalize lo * 2 ^ k % 18446744073709551616 = u10 at *
  generalize (n : Int) * 2 ^ k = Y at *
  have Y0 : 0 < Y := by omega
  have HY : Y = Y / 4294967296 * 4294967296 + Y % 4294967296 := by omega
  have ga := guess (u := u32) (a := Y / 4294967296) (by omega) hu0 (by omega)
  have sa := DI.start (y := Y) (yn1 := Y / 4294967296) (yn0 := Y % 4294967296) (u32 := u32) (u1 := u10 / 4294967296) (U := u32 * 4294967296 + u10 / 4294967296) HY (by omega) (by omega) rfl (by omega) hu0
  have q1s := DI.small (y := Y) (u32 := u32) (u1 := u10 / 4294967296) (U := u32 * 4294967296 + u10 / 4294967296) Y0 rfl (by omega) hu1
  have q1p : 0 ≤ (u32 * 4294967296 + u10 / 4294967296) / Y := Int.ediv_nonneg (by omega) (by omega)
  have dU := Int.mul_ediv_add_emod (u32 * 4294967296 + u10 / 4294967296) Y
  have mU0 := Int.emod_nonneg (u32 * 4294967296 + u10 / 4294967296) (show Y ≠ 0 by omega)
  have mU1 := Int.emod_lt_of_pos (u32 * 4294967296 + u10 / 4294967296) Y0
  have gb := guess (u := (u32 * 4294967296 + u10 / 4294967296) % Y) (a := Y / 4294967296) (by omega) mU0 (by omega)
  have sb := DI.start (y := Y) (yn1 := Y / 4294967296) (yn0 := Y % 4294967296) (u32 := (u32 * 4294967296 + u10 / 4294967296) % Y) (u1 := u10 % 4294967296) (U := (u32 * 4294967296 + u10 / 4294967296) % Y * 4294967296 + u10 % 4294967296) HY (by omega) (by omega) rfl (by omega) mU0
  have q0s := DI.small (y := Y) (u32 := (u32 * 4294967296 + u10 / 4294967296) % Y) (u1 := u10 % 4294967296) (U := (u32 * 4294967296 + u10 / 4294967296) % Y * 4294967296 + u10 % 4294967296) Y0 rfl (by omega) mU1
  have q0p : 0 ≤ ((u32 * 4294967296 + u10 / 4294967296) % Y * 4294967296 + u10 % 4294967296) / Y := Int.ediv_nonneg (by omega) (by omega)
  have en : IntKind.u64.wrap (IntKind.u64.wrap (IntKind.u64.wrap (u32 * 4294967296) + u10 / 4294967296) - IntKind.u64.wrap ((u32 * 4294967296 + u10 / 4294967296) / Y * Y)) = (u32 * 4294967296 + u10 / 4294967296) % Y := by
    rw [wrapu, wrapu, wrapu, wrapu]
    rw [Int.mul_comm] at dU
    generalize (u32 * 4294967296 + u10 / 4294967296) / Y * Y = B at *
    generalize (u32 * 4294967296 + u10 / 4294967296) % Y = C at *
    omega
  have R := two_digits (X := u32 * 18446744073709551616 + u10) (U := u32 * 4294967296 + u10 / 4294967296) (u0 := u10 % 4294967296) (V := (u32 * 4294967296 + u10 / 4294967296) % Y * 4294967296 + u10 % 4294967296) Y0 (by omega) rfl
  refine key Y (Y / 4294967296) (Y % 4294967296) u32 u10 (u10 / 4294967296) (u10 % 4294967296) _ _ _ _ _ _ _ _ _ _ w h0 hy hy2 hl hl2 LZ (by omega) (by omega) rfl (by omega) (by omega) rfl (and32 Y (by omega) (by omega)) rfl rfl (by omega) (by omega) rfl (and32 u10 (by omega) (by omega)) (by omega) (by omega) (by omega) (by omega) hu0 (by omega) (by omega) (by omega) (by omega) (by omega) rfl ga.2.2.1 ga.1 ga.2.1 ga.2.2.2.1 (by have := ga.2.2.2.2; omega) HY Y0 rfl ?_ hu1 rfl sa en mU0 (by omega) q1p q1s rfl gb.2.2.1 gb.1 gb.2.1 gb.2.2.2.1 (by have := gb.2.2.2.2; omega) rfl ?_ mU1 rfl sb q0p q0s R
  · show _ ≤ _; omega
  · show _ ≤ _; omega
/-- THE LONG DIVISION -/
theorem div_at (hi lo y : Int) (w : World) (h0 : 0 ≤ hi) (hy : hi < y) (hy2 : y < 9223372036854775808) (hl : 0 ≤ lo) (hl2 : lo < 18446744073709551616) :
    Calls Tryz.prog 40 #[.int .u64 hi, .int .u64 lo, .int .u64 y] w fun e w' => (∃ r, e = .returned (.tuple #[.int .u64 ((hi * 18446744073709551616 + lo) / y), .int .u64 r])) ∧ Below w.heap.size w w' := by
  by_cases c : hi = 0
  · subst c
    refine (div_zero_go lo y w hy (by omega) hl hl2).mono ?_
    rintro e w' ⟨he, rfl⟩
    rw [Int.zero_mul, Int.zero_add]
    exact ⟨he, (Ab.refl w).drew⟩
  · refine (div_pos_at hi lo y w (by omega) hy hy2 hl hl2).mono ?_
    rintro e w' ⟨he, rfl⟩
    exact ⟨he, Below.refl _ _⟩
end Sh
end Go.Proofs.YtidmgnllphnbbaaGreatDoor

namespace Go.Proofs.YtidmgnllphnbbaaGreatDoor
open Go.RowKit Go.Deep
namespace Sh
set_option maxRecDepth 100000 in
set_option maxHeartbeats 4000000 in
theorem pt_neg (x y z : Int) (w : World) (c : x < 0 ∨ y < 0 ∨ z ≤ 0) : Calls Tryz.prog 20 #[.int .i64 x, .int .i64 y, .int .i64 z] w fun e w' => e = .returned (.int .i64 0) ∧ w' = w := by
  by_cases c1 : x < 0
  · have f1 : decide (x < 0) = true := decide_eq_true c1
    clear c
    go_enter Tryz.func20, Tryz.ntmps20
    go_wp2
    go_ret
    exact ⟨rfl, rfl⟩
  · have f1 : decide (x < 0) = false := decide_eq_false c1
    by_cases c2 : y < 0
    · have f2 : decide (y < 0) = true := decide_eq_true c2
      clear c
      go_enter Tryz.func20, Tryz.ntmps20
      go_wp2
      go_ret
      exact ⟨rfl, rfl⟩
    · have f2 : decide (y < 0) = false := decide_eq_false c2
      have f3 : decide (z ≤ 0) = true := decide_eq_true (by omega)
      clear c
      go_enter Tryz.func20, Tryz.ntmps20
      go_wp2
      go_ret
      exact ⟨rfl, rfl⟩
set_option maxRecDepth 100000 in
set_option maxHeartbeats 4000000 in
theorem pt_big (x y z h l : Int) (w : World) (hx : 0 ≤ x) (hy : 0 ≤ y) (hz : 0 < z) (x2 : x ≤ 9223372036854775807) (y2 : y ≤ 9223372036854775807) (z2 : z ≤ 9223372036854775807)
    (MU : Hid (∀ v, Calls Tryz.prog 39 #[.int .u64 x, .int .u64 y] v fun e w' => e = .returned (.tuple #[.int .u64 h, .int .u64 l]) ∧ w' = v)) (hb : z ≤ h) :
    Calls Tryz.prog 20 #[.int .i64 x, .int .i64 y, .int .i64 z] w fun e w' => e = .returned (.int .i64 9223372036854775807) ∧ w' = w := by
  have f1 : decide (x < 0) = false := by rw [decide_eq_false_iff_not]; omega
  have f2 : decide (y < 0) = false := by rw [decide_eq_false_iff_not]; omega
  have f3 : decide (z ≤ 0) = false := by rw [decide_eq_false_iff_not]; omega
  have f4 : decide (z ≤ h) = true := decide_eq_true hb
  go_enter Tryz.func20, Tryz.ntmps20
  go_wp2_with fail
  refine (MU.out _).mono ?_
  rintro e9 v ⟨rfl, hv⟩
  have hv2 := hv.symm
  subst hv2
  go_wp2
  go_ret
  exact ⟨rfl, rfl⟩
set_option maxRecDepth 100000 in
set_option maxHeartbeats 4000000 in
theorem pt_small (x y z h l q : Int) (w : World) (hx : 0 ≤ x) (hy : 0 ≤ y) (hz : 0 < z) (x2 : x ≤ 9223372036854775807) (y2 : y ≤ 9223372036854775807) (z2 : z ≤ 9223372036854775807)
    (MU : Hid (∀ v, Calls Tryz.prog 39 #[.int .u64 x, .int .u64 y] v fun e w' => e = .returned (.tuple #[.int .u64 h, .int .u64 l]) ∧ w' = v)) (hb : h < z)
    (DV : Hid (Calls Tryz.prog 40 #[.int .u64 h, .int .u64 l, .int .u64 z] w fun e w' => (∃ r, e = .returned (.tuple #[.int .u64 q, .int .u64 r])) ∧ Below w.heap.size w w')) (hq : 0 ≤ q) (hq2 : q < 18446744073709551616) (p : Int) (PE : Hid (p = if 9223372036854775807 < q then 9223372036854775807 else q)) :
    Calls Tryz.prog 20 #[.int .i64 x, .int .i64 y, .int .i64 z] w fun e w' => e = .returned (.int .i64 p) ∧ Below w.heap.size w w' := by
  have f1 : decide (x < 0) = false := by rw [decide_eq_false_iff_not]; omega
  have f2 : decide (y < 0) = false := by rw [decide_eq_false_iff_not]; omega
  have f3 : decide (z ≤ 0) = false := by rw [decide_eq_false_iff_not]; omega
  have f4 : decide (z ≤ h) = false := decide_eq_false (by omega)
  go_enter Tryz.func20, Tryz.ntmps20
  go_wp2_with fail
  refine (MU.out _).mono ?_
  rintro e9 v ⟨rfl, hv⟩
  have hv2 := hv.symm
  subst hv2
  go_wp2_with fail
  refine DV.out.mono ?_
  rintro e8 v ⟨⟨r, rfl⟩, bl⟩
  have BL := hid bl
  clear bl
  by_cases c : 9223372036854775807 < q
  · have PE2 : Hid (p = 9223372036854775807) := by have h := PE.out; rwa [if_pos c] at h
    go_wp2
    go_ret
    exact ⟨by rw [PE2.out]; rfl, BL.out⟩
  · have PE2 : Hid (p = q) := by have h := PE.out; rwa [if_neg c] at h
    go_wp2
    go_ret
    exact ⟨by rw [PE2.out]; rfl, BL.out⟩
/-- PART -/
theorem partC : PartC := by
  intro x y z w hx hy hz
  by_cases c : x < 0 ∨ y < 0 ∨ z ≤ 0
  · have e : part x y z = 0 := by unfold part; rw [if_pos c]
    rw [e]
    refine (pt_neg x y z w c).mono ?_
    rintro e w' ⟨rfl, rfl⟩
    exact ⟨rfl, Below.refl _ _⟩
  · have h0 : 0 ≤ x ∧ 0 ≤ y ∧ 0 < z := by omega
    unfold W64 at hx hy hz
    have m := mul_bd (a := x) (b := y) (m := 9223372036854775807) (by omega) (by omega) (by omega) (by omega)
    have m0 := m.1
    have MU := fun v => mul64_at x y v h0.1 (by omega) h0.2.1 (by omega)
    have dm : x * y / 18446744073709551616 * 18446744073709551616 + x * y % 18446744073709551616 = x * y := by omega
    by_cases b : z ≤ x * y / 18446744073709551616
    · have e : part x y z = 9223372036854775807 := by
        unfold part
        rw [if_neg c, if_pos]
        have k : 9223372036854775808 ≤ x * y / z := (Int.le_ediv_iff_mul_le h0.2.2).2 (by omega)
        omega
      rw [e]
      refine (pt_big x y z _ _ w h0.1 h0.2.1 h0.2.2 hx.2 hy.2 hz.2 MU b).mono ?_
      rintro e w' ⟨rfl, rfl⟩
      exact ⟨rfl, Below.refl _ _⟩
    · have e : part x y z = if 9223372036854775807 < x * y / z then 9223372036854775807 else x * y / z := by
        unfold part
        rw [if_neg c]
      have D := div_at (x * y / 18446744073709551616) (x * y % 18446744073709551616) z w (by omega) (by omega) (by omega) (by omega) (by omega)
      rw [dm] at D
      rw [e]
      refine pt_small x y z _ _ _ w h0.1 h0.2.1 h0.2.2 hx.2 hy.2 hz.2 MU (by omega) D (Int.ediv_nonneg m0 (by omega)) ?_ _ rfl
      exact Int.ediv_lt_of_lt_mul h0.2.2 (by omega)
end Sh
end Go.Proofs.YtidmgnllphnbbaaGreatDoor

namespace Go.Proofs.YtidmgnllphnbbaaGreatDoor
open Go.RowKit Go.Deep
namespace Tr
open Sh
/-- a list of the call's own, as a row -/
theorem own_row17 {B : Nat} {v : Value} {l : List Int} {w : World} (h : Own B v l w) (h0 : 0 < l.length) : ∃ g cap F, v = .slice (some ⟨g, 0, none⟩) l.length cap ∧ B ≤ g ∧ l.length ≤ cap ∧ cap ≤ maxLen ∧ w.rowIs g 2 cap F ∧ ∀ i, i < l.length → F i = .int .i64 (l.getD i 0) := by
  rcases h.2 with ⟨rfl, hz⟩ | ⟨g, cap, cur, e, hb, hg, h1, h2, h3, h4⟩
  · omega
  · refine ⟨g, cap, fun i => (cur[i]?).getD (.bool false), e, hb, h1, h2, ⟨cur, hg, by omega, fun i hi => ?_⟩, fun i hi => ?_⟩
    · have : i < cur.size := by omega
      simp [this]
    · have q : (cur.toList.take l.length)[i]? = (l.map (Value.int .i64))[i]? := by
        have h4' : cur.toList.take l.length = l.map (Value.int .i64) := by simpa using h4
        rw [h4']
      rw [List.getElem?_take, if_pos hi, Array.getElem?_toList] at q
      dsimp only
      rw [q]
      simp [hi, List.getD]
theorem own_two17 {B n : Nat} {v : Value} {x : Nat → Int} {w : World} (h : Own B v ((List.range n).map x) w) (h0 : 0 < n) : ∃ g cap F, v = .slice (some ⟨g, 0, none⟩) n cap ∧ B ≤ g ∧ n ≤ cap ∧ cap ≤ maxLen ∧ w.rowIs g 2 cap F ∧ ∀ i, i < n → F i = .int .i64 (x i) := by
  have e : ((List.range n).map x).length = n := by simp
  obtain ⟨g, cap, F, h1, h2, h3, h4, h5, h6⟩ := own_row17 h (by rw [e]; exact h0)
  rw [e] at h1 h3 h6
  exact ⟨g, cap, F, h1, h2, h3, h4, h5, fun i hi => by rw [h6 i hi]; simp [List.getD, hi]⟩
theorem row_own17 {B g cap n : Nat} {F : Nat → Value} {x : Nat → Int} {w : World} (h : w.rowIs g 2 cap F) (hB : B ≤ g) (hn : n ≤ cap) (hc : cap ≤ maxLen) (hF : ∀ i, i < n → F i = .int .i64 (x i)) : Own B (.slice (some ⟨g, 0, none⟩) n cap) ((List.range n).map x) w := by
  obtain ⟨c, hb, hs, hf⟩ := h
  refine ⟨by simp, .inr ⟨g, cap, c, by simp, hB, hb, by simpa using hn, hc, by omega, ?_⟩⟩
  apply List.ext_getElem?
  intro i
  rw [List.getElem?_take, List.length_map, List.length_range]
  by_cases hi : i < n
  · have e := hf i (by omega)
    rw [hF i hi] at e
    rw [if_pos (by omega)]
    rw [← Array.getElem?_toList] at e
    rw [e]
    simp [hi]
  · rw [if_neg (by omega), List.getElem?_eq_none (by simp; omega)]
set_option maxRecDepth 100000 in
set_option maxHeartbeats 4000000 in
theorem takes_neg (W h : Int) (p : Option Addr) (n cp : Nat) (w : World) (c : W < 0 ∨ h < 0) :
    Calls Tryz.prog 9 #[.int .i64 W, .int .i64 h, .slice p n cp] w fun e w' => e = .returned (.tuple #[.slice none 0 0, .int .i64 1]) ∧ w' = w := by
  by_cases c1 : W < 0
  · have d1 : decide (W < 0) = true := decide_eq_true c1
    clear c
    go_enter Tryz.func9, Tryz.ntmps9
    go_wp2
    go_ret2
    exact ⟨rfl, rfl⟩
  · have d1 : decide (W < 0) = false := decide_eq_false c1
    have d2 : decide (h < 0) = true := decide_eq_true (by omega)
    clear c
    go_enter Tryz.func9, Tryz.ntmps9
    go_wp2
    go_ret2
    exact ⟨rfl, rfl⟩
set_option maxRecDepth 100000 in
set_option maxHeartbeats 16000000 in
theorem takes_yes (W h : Int) (p : Option Addr) (n cp : Nat) (f : Nat → Int) (w : World) (hW : 0 ≤ W) (hh : 0 ≤ h) (WW : Hid (Sh.W64 W ∧ Sh.W64 h)) (hn : n ≤ 65536) (hf : IsI w p n f) (HG : Hid (okA W f n)) :
    Calls Tryz.prog 9 #[.int .i64 W, .int .i64 h, .slice p n cp] w fun e w' => ∃ v, e = .returned (.tuple #[v, .int .i64 0]) ∧ Below w.heap.size w w' ∧ Own w.heap.size v (tkL W h n f) w' := by
  have MK := run_make_row' (P := Tryz.prog) 22 2 (.int .i64 0) 8 Tryz.underlying22 Sh.info64 rfl .i64 .i64 n (by omega) (by omega) w
  have HF := hid hf
  have HN := hid hn
  clear hf hn
  have d1 : decide (W < 0) = false := decide_eq_false (by omega)
  have d2 : decide (h < 0) = false := decide_eq_false (by omega)
  obtain ⟨ob, hob⟩ : ∃ b, w.heap.size = b := ⟨_, rfl⟩
  have RW : Hid ((w.alloc (.cells (madeCells #[.int .i64 0] n) 2)).rowIs ob 2 n (fun _ => .int .i64 0)) := by rw [← hob]; exact World.rowIs_made _ _ _ _
  have A0 : Hid (Ab w (w.alloc (.cells (madeCells #[.int .i64 0] n) 2))) := bl1 w _
  have HO : Hid (w.heap.size ≤ ob) := Nat.le_of_eq hob
  generalize w.alloc (.cells (madeCells #[.int .i64 0] n) 2) = wm at *
  go_enter Tryz.func9, Tryz.ntmps9
  go_wp2
  clear MK hob
  go_loopw [9, 10, 25] (fun gv tv iv wr => ∃ c : Nat, c ≤ n ∧ iv = .int .i64 (c : Nat) ∧ gv = .int .i64 (sumN f c) ∧ tv = .int .i64 (Sh.part h (sumN f c) W) ∧ okA W f c ∧ Ab w wr ∧ wr.rowIs ob 2 n (fun j => .int .i64 (if j < c then tkA h W f j else 0))) (fun _ _ iv _ => n - (intOf iv).toNat)
  case atStart => exact ⟨0, by omega, rfl, rfl, by rw [show sumN f 0 = 0 from rfl, part_0], ⟨fun i hi => absurd hi (Nat.not_lt_zero i), by show (0 : Int) ≤ _; omega⟩, A0.out, RW.out.congr (fun i _ => by simp)⟩
  case round =>
    obtain ⟨c, hc, rfl, rfl, rfl, ok, a1, r1⟩ := hrel
    have AR := hid a1
    have RR := hid r1
    have OK := hid ok
    have HC := hid hc
    have s0 := (ok.sum (Nat.le_refl c)).1
    have s1 := (ok.sum (Nat.le_refl c)).2
    have W2 := WW.out.1.2
    obtain ⟨s, hs⟩ : ∃ s, sumN f c = s := ⟨_, rfl⟩
    have SE := hid hs
    rw [hs] at s0 s1 ⊢
    obtain ⟨q, hq⟩ : ∃ q, Sh.part h s W = q := ⟨_, rfl⟩
    have q0 := (Sh.part_in h s W).1
    have q1 := (Sh.part_in h s W).2
    have QE := hid hq
    rw [hq] at q0 q1 ⊢
    clear hs hq a1 r1 ok A0 RW
    by_cases hcn : c < n
    · have HC2 := hid hcn
      have hcI : (c : Int) < n := by omega
      have hcB : (c : Int) ≤ 65536 := by have := HN.out; omega
      obtain ⟨b0, o0, rfl⟩ := HF.out.some0 (show 0 < n by omega)
      obtain ⟨x, hx⟩ : ∃ x, f c = x := ⟨_, rfl⟩
      have at0 := (HF.out.below AR.out).at0 hcn
      rw [hx] at at0
      have xc := at0.2.2
      have x1 := at0.1.1
      have x2 := at0.1.2
      have XE := hid hx
      clear at0 hx hcn hc
      have OK2 : Hid (0 ≤ x → x ≤ W - s → okA W f (c + 1)) := fun a b => ⟨fun i hi => by
        by_cases l : i < c
        · exact OK.out.1 i l
        · obtain rfl : i = c := by omega
          rw [XE.out]; exact a, by
        show sumN f c + f c ≤ W
        rw [SE.out, XE.out]
        omega⟩
      have x0 : 0 ≤ x := by rw [← XE.out]; exact HG.out.1 c HC2.out
      have x3 : x ≤ W - s := by
        have m := (HG.out.sum (k := c + 1) (by have := HC2.out; omega)).2
        have e : sumN f (c + 1) = s + x := by show sumN f c + f c = _; rw [SE.out, XE.out]
        omega
      have d3 : decide (x < 0) = false := decide_eq_false (by omega)
      have d4 : decide (W - s < x) = false := decide_eq_false (by omega)
      obtain ⟨y, hy⟩ : ∃ y, Sh.part h (s + x) W = y := ⟨_, rfl⟩
      have y0 := (Sh.part_in h (s + x) W).1
      have y1 := (Sh.part_in h (s + x) W).2
      have PC := hid (partC h (s + x) W wr WW.out.2 ⟨by omega, by omega⟩ WW.out.1)
      have YE := hid hy
      rw [hy] at y0 y1 PC
      have TK : Hid (tkA h W f c = y - q) := by
        show Sh.part h (sumN f c + f c) W - Sh.part h (sumN f c) W = _
        rw [SE.out, XE.out, YE.out, QE.out]
      clear hy
      go_wp2_with fail
      refine PC.out.mono ?_
      rintro e9 v1 ⟨rfl, b1⟩
      have A1 : Hid (Ab wr v1) := b1
      clear b1 PC
      have R1 := hid (row_ab RR.out A1.out)
      have z1 := R1.out.cell (show c < n from HC2.out)
      have z2 := R1.out.frozen c
      go_wp2
      refine ⟨⟨c + 1, by have := HC2.out; omega, by simp, ?_, ?_, OK2.out (by omega) (by omega), (AR.out.trans A1.out).set HO.out _, (R1.out.set c _).congr (fun i _ => ?_)⟩, by have := HC2.out; simp [intOf]; omega⟩
      · show _ = Value.int .i64 (sumN f c + f c)
        rw [SE.out, XE.out]
      · show _ = Value.int .i64 (Sh.part h (sumN f c + f c) W)
        rw [SE.out, XE.out, YE.out]
      · by_cases e : i = c
        · subst e; simp [TK.out]
        · have e2 : (i < c + 1) ↔ i < c := by omega
          simp [e, e2]
    · have e6 : n = c := by omega
      subst e6
      go_wp2
      go_ret2
      exact ⟨_, rfl, AR.out, row_own17 RR.out HO.out (Nat.le_refl _) (by unfold maxLen; have := HN.out; omega) (fun i hi => by simp [hi])⟩
set_option maxRecDepth 100000 in
set_option maxHeartbeats 16000000 in
theorem takes_no (W h : Int) (p : Option Addr) (n cp : Nat) (f : Nat → Int) (w : World) (hW : 0 ≤ W) (hh : 0 ≤ h) (WW : Hid (Sh.W64 W ∧ Sh.W64 h)) (hn : n ≤ 65536) (hf : IsI w p n f) (HB : Hid (¬ okA W f n)) :
    Calls Tryz.prog 9 #[.int .i64 W, .int .i64 h, .slice p n cp] w fun e w' => e = .returned (.tuple #[.slice none 0 0, .int .i64 1]) ∧ Below w.heap.size w w' := by
  have MK := run_make_row' (P := Tryz.prog) 22 2 (.int .i64 0) 8 Tryz.underlying22 Sh.info64 rfl .i64 .i64 n (by omega) (by omega) w
  have HF := hid hf
  have HN := hid hn
  clear hf hn
  have d1 : decide (W < 0) = false := decide_eq_false (by omega)
  have d2 : decide (h < 0) = false := decide_eq_false (by omega)
  obtain ⟨ob, hob⟩ : ∃ b, w.heap.size = b := ⟨_, rfl⟩
  have RW : Hid ((w.alloc (.cells (madeCells #[.int .i64 0] n) 2)).rowIs ob 2 n (fun _ => .int .i64 0)) := by rw [← hob]; exact World.rowIs_made _ _ _ _
  have A0 : Hid (Ab w (w.alloc (.cells (madeCells #[.int .i64 0] n) 2))) := bl1 w _
  have HO : Hid (w.heap.size ≤ ob) := Nat.le_of_eq hob
  generalize w.alloc (.cells (madeCells #[.int .i64 0] n) 2) = wm at *
  go_enter Tryz.func9, Tryz.ntmps9
  go_wp2
  clear MK hob
  go_loopw [9, 10, 25] (fun gv tv iv wr => ∃ c : Nat, c ≤ n ∧ iv = .int .i64 (c : Nat) ∧ gv = .int .i64 (sumN f c) ∧ tv = .int .i64 (Sh.part h (sumN f c) W) ∧ okA W f c ∧ Ab w wr ∧ wr.rowIs ob 2 n (fun j => .int .i64 (if j < c then tkA h W f j else 0))) (fun _ _ iv _ => n - (intOf iv).toNat)
  case atStart => exact ⟨0, by omega, rfl, rfl, by rw [show sumN f 0 = 0 from rfl, part_0], ⟨fun i hi => absurd hi (Nat.not_lt_zero i), by show (0 : Int) ≤ _; omega⟩, A0.out, RW.out.congr (fun i _ => by simp)⟩
  case round =>
    obtain ⟨c, hc, rfl, rfl, rfl, ok, a1, r1⟩ := hrel
    have AR := hid a1
    have RR := hid r1
    have OK := hid ok
    have HC := hid hc
    have s0 := (ok.sum (Nat.le_refl c)).1
    have s1 := (ok.sum (Nat.le_refl c)).2
    have W2 := WW.out.1.2
    obtain ⟨s, hs⟩ : ∃ s, sumN f c = s := ⟨_, rfl⟩
    have SE := hid hs
    rw [hs] at s0 s1 ⊢
    obtain ⟨q, hq⟩ : ∃ q, Sh.part h s W = q := ⟨_, rfl⟩
    have q0 := (Sh.part_in h s W).1
    have q1 := (Sh.part_in h s W).2
    have QE := hid hq
    rw [hq] at q0 q1 ⊢
    clear hs hq a1 r1 ok A0 RW
    by_cases hcn : c < n
    · have HC2 := hid hcn
      have hcI : (c : Int) < n := by omega
      have hcB : (c : Int) ≤ 65536 := by have := HN.out; omega
      obtain ⟨b0, o0, rfl⟩ := HF.out.some0 (show 0 < n by omega)
      obtain ⟨x, hx⟩ : ∃ x, f c = x := ⟨_, rfl⟩
      have at0 := (HF.out.below AR.out).at0 hcn
      rw [hx] at at0
      have xc := at0.2.2
      have x1 := at0.1.1
      have x2 := at0.1.2
      have XE := hid hx
      clear at0 hx hcn hc
      have OK2 : Hid (0 ≤ x → x ≤ W - s → okA W f (c + 1)) := fun a b => ⟨fun i hi => by
        by_cases l : i < c
        · exact OK.out.1 i l
        · obtain rfl : i = c := by omega
          rw [XE.out]; exact a, by
        show sumN f c + f c ≤ W
        rw [SE.out, XE.out]
        omega⟩
      by_cases x0 : x < 0
      · have d3 : decide (x < 0) = true := decide_eq_true x0
        go_wp2
        go_ret2
        exact ⟨rfl, AR.out⟩
      · have d3 : decide (x < 0) = false := decide_eq_false x0
        by_cases x3 : W - s < x
        · have d4 : decide (W - s < x) = true := decide_eq_true x3
          go_wp2
          go_ret2
          exact ⟨rfl, AR.out⟩
        · have d4 : decide (W - s < x) = false := decide_eq_false x3
          obtain ⟨y, hy⟩ : ∃ y, Sh.part h (s + x) W = y := ⟨_, rfl⟩
          have y0 := (Sh.part_in h (s + x) W).1
          have y1 := (Sh.part_in h (s + x) W).2
          have PC := hid (partC h (s + x) W wr WW.out.2 ⟨by omega, by omega⟩ WW.out.1)
          have YE := hid hy
          rw [hy] at y0 y1 PC
          have TK : Hid (tkA h W f c = y - q) := by
            show Sh.part h (sumN f c + f c) W - Sh.part h (sumN f c) W = _
            rw [SE.out, XE.out, YE.out, QE.out]
          clear hy
          go_wp2_with fail
          refine PC.out.mono ?_
          rintro e9 v1 ⟨rfl, b1⟩
          have A1 : Hid (Ab wr v1) := b1
          clear b1 PC
          have R1 := hid (row_ab RR.out A1.out)
          have z1 := R1.out.cell (show c < n from HC2.out)
          have z2 := R1.out.frozen c
          go_wp2
          refine ⟨⟨c + 1, by have := HC2.out; omega, by simp, ?_, ?_, OK2.out (by omega) (by omega), (AR.out.trans A1.out).set HO.out _, (R1.out.set c _).congr (fun i _ => ?_)⟩, by have := HC2.out; simp [intOf]; omega⟩
          · show _ = Value.int .i64 (sumN f c + f c)
            rw [SE.out, XE.out]
          · show _ = Value.int .i64 (Sh.part h (sumN f c + f c) W)
            rw [SE.out, XE.out, YE.out]
          · by_cases e : i = c
            · subst e; simp [TK.out]
            · have e2 : (i < c + 1) ↔ i < c := by omega
              simp [e, e2]
    · have e6 : n = c := by omega
      subst e6
      exact absurd OK.out HB.out
/-- TAKES -/
theorem takesC : TakesC := by
  intro W h p n c f w hW hh hn hf
  constructor
  · rintro ⟨g1, g2, g3⟩
    exact takes_yes W h p n c f w g1 g2 ⟨hW, hh⟩ hn hf g3
  · intro b
    by_cases l : W < 0 ∨ h < 0
    · refine (takes_neg W h p n c w l).mono ?_
      rintro e w' ⟨rfl, rfl⟩
      exact ⟨rfl, Below.refl _ _⟩
    · exact takes_no W h p n c f w (by omega) (by omega) ⟨hW, hh⟩ hn hf (fun o => b ⟨by omega, by omega, o⟩)
end Tr
end Go.Proofs.YtidmgnllphnbbaaGreatDoor

namespace Go.Proofs.YtidmgnllphnbbaaGreatDoor
open Go.RowKit Go.Deep Cu
namespace Tr
open Sh
theorem around17 {n gb c s : Nat} {v : World} (hn : 1 ≤ n ∧ n ≤ 32) (hc : c < 6 * n * n) (hs : s < 4) (g : GridOf n gb v) : Calls Tryz.prog 35 #[.pointer (some ⟨gb, 0, none⟩), .int .i64 (c : Nat), .int .i64 (s : Nat)] v fun e w' => e = .returned (.tuple #[.int .i64 (eE n (4 * c + s) : Nat), .int .i64 (eS n (4 * c + s))]) ∧ Below v.heap.size v w' := by
  have e : gT n (24 * n * n) (c : Nat) (s : Nat) = (((eE n (4 * c + s) : Nat) : Int), eS n (4 * c + s)) := by
    have ht := t_lt hc hs
    have hm := mt_lt hn.1 ht
    rw [gT_nat, if_pos ⟨hc, hs⟩]
    unfold gN eE eS
    by_cases q : isL n (4 * c + s) = true
    · simp [q, ht]
    · simp [q, hm]
  have b : c < 6144 := by
    have h1 : n * n ≤ 32 * 32 := Nat.mul_le_mul hn.2 hn.2
    rw [Nat.mul_assoc] at hc
    omega
  have h := gAround_at (n := n) (gb := gb) (c := (c : Nat)) (s := (s : Nat)) (w := v) ⟨by omega, by omega⟩ ⟨by omega, by omega⟩ g
  rwa [e] at h
/-- too great a flow -/
def far17 (x : Int) : Bool := decide (x < -4503599627370496) || decide (4503599627370496 < x)
set_option maxRecDepth 100000 in
theorem far17_at (x : Int) (w : World) : Calls Tryz.prog 14 #[.int .i64 x] w fun e w' => e = .returned (.bool (far17 x)) ∧ w' = w := by
  cases h1 : decide (x < -4503599627370496) with
  | true =>
    have F : Hid (far17 x = true) := by show _ = _; unfold far17; rw [h1]; rfl
    go_enter Tryz.func14, Tryz.ntmps14
    go_wp2
    go_ret
    exact ⟨by rw [F.out]; rfl, rfl⟩
  | false =>
    cases h2 : decide (4503599627370496 < x) with
    | true =>
      have F : Hid (far17 x = true) := by show _ = _; unfold far17; rw [h1, h2]; rfl
      go_enter Tryz.func14, Tryz.ntmps14
      go_wp2
      go_ret
      exact ⟨by rw [F.out]; rfl, rfl⟩
    | false =>
      have F : Hid (far17 x = false) := by show _ = _; unfold far17; rw [h1, h2]; rfl
      go_enter Tryz.func14, Tryz.ntmps14
      go_wp2
      go_ret
      exact ⟨by rw [F.out]; rfl, rfl⟩
set_option maxRecDepth 100000 in
set_option maxHeartbeats 8000000 in
theorem idxfar17_no (p : Option Addr) (n cp : Nat) (f : Nat → Int) (w : World) (hn : n ≤ 65536) (hf : IsI w p n f) (HA : Hid (∀ i, i < n → far17 (f i) = false)) :
    Calls Tryz.prog 34 #[.slice p n cp, .func (.func 14) #[] #[]] w fun e w' => e = .returned (.int .i64 (-1)) ∧ w' = w := by
  have HF := hid hf
  have HN := hid hn
  clear hf hn
  go_enter Tryz.func34, Tryz.ntmps34
  go_wp2
  go_loopw [8] (fun iv wr => ∃ c : Nat, c ≤ n ∧ iv = .int .i64 (c : Nat) ∧ wr = w) (fun iv _ => n - (intOf iv).toNat)
  case atStart => exact ⟨0, by omega, rfl, rfl⟩
  case round =>
    obtain ⟨c, hc, rfl, hwr⟩ := hrel
    have hwr2 := hwr.symm
    subst hwr2
    by_cases hcn : c < n
    · have HC := hid hcn
      have hcI : (c : Int) < n := by omega
      have hcB : (c : Int) ≤ 65536 := by have := HN.out; omega
      obtain ⟨b0, o0, rfl⟩ := HF.out.some0 (show 0 < n by omega)
      obtain ⟨x, hx⟩ : ∃ x, f c = x := ⟨_, rfl⟩
      have at0 := HF.out.at0 hcn
      have hp := HA.out c hcn
      rw [hx] at at0 hp
      have xc := at0.2.2
      have CF := hid (far17_at x w)
      rw [hp] at CF
      clear at0 hx hcn hc hp
      go_wp2_with fail
      refine CF.out.mono ?_
      rintro e9 v9 ⟨rfl, hv9⟩
      have hv8 := hv9.symm
      subst hv8
      go_wp2
      exact ⟨⟨c + 1, by have := HC.out; omega, by simp, by first | trivial | rfl⟩, by have := HC.out; simp [intOf]; omega⟩
    · have e6 : n = c := by omega
      subst e6
      go_wp2
      go_ret
      exact ⟨rfl, by first | trivial | rfl⟩
set_option maxRecDepth 100000 in
set_option maxHeartbeats 8000000 in
theorem idxfar17_yes (p : Option Addr) (n cp : Nat) (f : Nat → Int) (w : World) (hn : n ≤ 65536) (hf : IsI w p n f) (HA : Hid (¬ ∀ i, i < n → far17 (f i) = false)) :
    Calls Tryz.prog 34 #[.slice p n cp, .func (.func 14) #[] #[]] w fun e w' => (∃ i : Nat, i ≤ 65536 ∧ e = .returned (.int .i64 (i : Nat))) ∧ w' = w := by
  have HF := hid hf
  have HN := hid hn
  clear hf hn
  go_enter Tryz.func34, Tryz.ntmps34
  go_wp2
  go_loopw [8] (fun iv wr => ∃ c : Nat, c ≤ n ∧ iv = .int .i64 (c : Nat) ∧ (∀ i, i < c → far17 (f i) = false) ∧ wr = w) (fun iv _ => n - (intOf iv).toNat)
  case atStart => exact ⟨0, by omega, rfl, fun i hi => absurd hi (Nat.not_lt_zero i), rfl⟩
  case round =>
    obtain ⟨c, hc, rfl, g1, hwr⟩ := hrel
    have hwr2 := hwr.symm
    subst hwr2
    have G1 := hid g1
    clear g1
    by_cases hcn : c < n
    · have HC := hid hcn
      have hcI : (c : Int) < n := by omega
      have hcB : (c : Int) ≤ 65536 := by have := HN.out; omega
      obtain ⟨b0, o0, rfl⟩ := HF.out.some0 (show 0 < n by omega)
      obtain ⟨x, hx⟩ : ∃ x, f c = x := ⟨_, rfl⟩
      have at0 := HF.out.at0 hcn
      rw [hx] at at0
      have xc := at0.2.2
      have CF := hid (far17_at x w)
      have XE := hid hx
      clear at0 hx hcn hc
      cases hp : far17 (x) with
      | true =>
        rw [hp] at CF
        have hp2 := hid hp
        clear hp
        go_wp2_with fail
        refine CF.out.mono ?_
        rintro e9 v9 ⟨rfl, hv9⟩
        have hv8 := hv9.symm
        subst hv8
        go_wp2
        go_ret
        exact ⟨⟨c, by have := HC.out; have := HN.out; omega, rfl⟩, by first | trivial | rfl⟩
      | false =>
        rw [hp] at CF
        have hp2 := hid hp
        clear hp
        go_wp2_with fail
        refine CF.out.mono ?_
        rintro e9 v9 ⟨rfl, hv9⟩
        have hv8 := hv9.symm
        subst hv8
        go_wp2
        refine ⟨⟨c + 1, by have := HC.out; omega, by simp, fun i hi => ?_, by first | trivial | rfl⟩, by have := HC.out; simp [intOf]; omega⟩
        by_cases l : i < c
        · exact G1.out i l
        · obtain rfl : i = c := by omega
          rw [XE.out]
          exact hp2.out
    · have e6 : n = c := by omega
      subst e6
      exact absurd G1.out HA.out
set_option maxRecDepth 100000 in
set_option maxHeartbeats 4000000 in
theorem hasfar17_no (p : Option Addr) (n cp : Nat) (f : Nat → Int) (w : World) (hn : n ≤ 65536) (hf : IsI w p n f) (HA : ∀ i, i < n → far17 (f i) = false) :
    Calls Tryz.prog 13 #[.slice p n cp, .func (.func 14) #[] #[]] w fun e w' => e = .returned (.bool false) ∧ w' = w := by
  have IX := hid (idxfar17_no p n cp f w hn hf HA)
  clear hn hf HA
  go_enter Tryz.func13, Tryz.ntmps13
  go_wp2_with fail
  refine IX.out.mono ?_
  rintro e9 v9 ⟨rfl, hv9⟩
  have hv8 := hv9.symm
  subst hv8
  go_wp2
  go_ret
  exact ⟨rfl, rfl⟩
set_option maxRecDepth 100000 in
set_option maxHeartbeats 4000000 in
theorem hasfar17_yes (p : Option Addr) (n cp : Nat) (f : Nat → Int) (w : World) (hn : n ≤ 65536) (hf : IsI w p n f) (HA : ¬ ∀ i, i < n → far17 (f i) = false) :
    Calls Tryz.prog 13 #[.slice p n cp, .func (.func 14) #[] #[]] w fun e w' => e = .returned (.bool true) ∧ w' = w := by
  have IX := hid (idxfar17_yes p n cp f w hn hf HA)
  clear hn hf HA
  go_enter Tryz.func13, Tryz.ntmps13
  go_wp2_with fail
  refine IX.out.mono ?_
  rintro e9 v9 ⟨⟨i, hi, rfl⟩, hv9⟩
  have hv8 := hv9.symm
  subst hv8
  go_wp2
  go_ret
  exact ⟨rfl, rfl⟩
set_option maxRecDepth 100000 in
set_option maxHeartbeats 16000000 in
theorem give17_yes (gb N cell fb fo lf cf b : Nat) (wa has : Int) (E : Nat → Nat) (sg x g k : Nat → Int) (P : Nat → Nat → Int) (w0 w : World) (hB : w0.heap.size ≤ b)
    (AV : Hid (Ab w0 w)) (RB : Hid (w.rowIs b 2 N (fun i => .int .i64 (P 0 i))))
    (ARD : Hid (∀ u s, s < 4 → Ab w0 u → Calls Tryz.prog 35 #[.pointer (some ⟨gb, 0, none⟩), .int .i64 (cell : Nat), .int .i64 (s : Nat)] u fun e w' => e = .returned (.tuple #[.int .i64 (E s : Nat), .int .i64 (sg s)]) ∧ Below u.heap.size u w'))
    (FL : Hid (∀ u s, s < 4 → Ab w0 u → u.cell? ⟨fb, fo + E s, none⟩ = some (.int .i64 (x s))))
    (FA : Hid (∀ s, s < 4 → E s < N ∧ E s < lf ∧ E s ≤ 65536 ∧ (-4503599627370496 ≤ sg s * x s ∧ sg s * x s ≤ 4503599627370496) ∧ g s = (if 0 < sg s * x s then sg s * x s else 0) ∧ (-9223372036854775807 ≤ sg s * k s ∧ sg s * k s ≤ 9223372036854775807)))
    (CUT : Hid (∀ u a, IsI u (some ⟨a, 0, none⟩) 4 g → Calls Tryz.prog 9 #[.int .i64 wa, .int .i64 has, .slice (some ⟨a, 0, none⟩) 4 4] u fun e w' => ∃ g2 cap F, e = .returned (.tuple #[.slice (some ⟨g2, 0, none⟩) 4 cap, .int .i64 0]) ∧ Below u.heap.size u w' ∧ u.heap.size ≤ g2 ∧ 4 ≤ cap ∧ w'.rowIs g2 2 cap F ∧ ∀ i, i < 4 → F i = .int .i64 (k i)))
    (ST : Hid (∀ s, s < 4 → ∀ i, i < N → P (s + 1) i = if i = E s ∧ 0 < g s then sg s * k s else P s i)) :
    Calls Tryz.prog 15 #[.pointer (some ⟨gb, 0, none⟩), .int .i64 (cell : Nat), .int .i64 wa, .int .i64 has, .slice (some ⟨fb, fo, none⟩) lf cf, .slice (some ⟨b, 0, none⟩) N N] w fun e w' => e = .returned (.bool true) ∧ Ab w0 w' ∧ w'.rowIs b 2 N (fun i => .int .i64 (P 4 i)) := by
  have MK : (Instr.makeSlice 22 (.int .i64 4) (.int .i64 4)).run Tryz.prog w = .ok (.slice (some ⟨w.heap.size, 0, none⟩) 4 4) (w.alloc (.cells (madeCells #[.int .i64 0] 4) 2)) := run_make_row' (P := Tryz.prog) 22 2 (.int .i64 0) 8 Tryz.underlying22 Sh.info64 rfl .i64 .i64 4 (by omega) (by omega) w
  have HB := hid hB
  have BL : Hid (b < w.heap.size) := RB.out.lt
  clear hB
  obtain ⟨ob, hob⟩ : ∃ b, w.heap.size = b := ⟨_, rfl⟩
  have RW : Hid ((w.alloc (.cells (madeCells #[.int .i64 0] 4) 2)).rowIs ob 2 4 (fun _ => .int .i64 0)) := by rw [← hob]; exact World.rowIs_made _ _ _ _
  have A0 : Hid (Ab w (w.alloc (.cells (madeCells #[.int .i64 0] 4) 2))) := bl1 w _
  have HO : Hid (w.heap.size ≤ ob ∧ b < ob) := ⟨Nat.le_of_eq hob, by rw [← hob]; exact BL.out⟩
  generalize w.alloc (.cells (madeCells #[.int .i64 0] 4) 2) = wm at *
  go_enter Tryz.func15, Tryz.ntmps15
  go_wp2
  clear MK hob
  go_loopw [23] (fun iv wr => ∃ c : Nat, c ≤ 4 ∧ iv = .int .i64 (c : Nat) ∧ Ab w wr ∧ wr.rowIs ob 2 4 (fun j => .int .i64 (if j < c then g j else 0))) (fun iv _ => 4 - (intOf iv).toNat)
  case atStart => exact ⟨0, by omega, rfl, A0.out, RW.out.congr (fun i _ => by simp)⟩
  case round =>
    obtain ⟨c, hc, rfl, a1, r1⟩ := hrel
    have AR := hid a1
    have RR := hid r1
    clear a1 r1 A0 RW
    by_cases hcn : c < 4
    · have HC := hid hcn
      have hcI : (c : Int) < 4 := by omega
      have AW := hid (AV.out.trans AR.out)
      have CA := hid (ARD.out wr c hcn AW.out)
      obtain ⟨f1, f2, f3, f4, f5, -⟩ := FA.out c hcn
      obtain ⟨y, hy⟩ : ∃ y, sg c * x c = y := ⟨_, rfl⟩
      obtain ⟨ee, hee⟩ : ∃ e, E c = e := ⟨_, rfl⟩
      obtain ⟨xx, hxx⟩ : ∃ e, x c = e := ⟨_, rfl⟩
      obtain ⟨ss, hss⟩ : ∃ e, sg c = e := ⟨_, rfl⟩
      have GE := hid f5
      rw [hy] at f4 GE
      rw [hee, hss] at CA
      rw [hee] at f2 f3
      rw [hss, hxx] at hy
      have EE := hid hee
      have XX := hid hxx
      have y1 := f4.1
      have y2 := f4.2
      have e1 : (ee : Int) < lf := by omega
      have e2 : (ee : Int) ≤ 65536 := by omega
      clear f1 f4 f5 hee hxx hss hcn hc f2 f3
      go_wp2_with fail
      refine CA.out.mono ?_
      rintro e9 v1 ⟨rfl, b1⟩
      have A1 : Hid (Ab wr v1) := b1
      clear b1 CA
      have xc : v1.cell? ⟨fb, fo + ee, none⟩ = some (.int .i64 xx) := by
        have h := FL.out v1 c HC.out (AW.out.trans A1.out)
        rwa [EE.out, XX.out] at h
      have R1 := hid (row_ab RR.out A1.out)
      have z1 := R1.out.cell (show c < 4 from HC.out)
      have z2 := R1.out.frozen c
      by_cases c0 : 0 < y
      · have GV : Hid (g c = y) := by have h := GE.out; rwa [if_pos c0] at h
        go_wp2
        refine ⟨⟨c + 1, by have := HC.out; omega, by simp, (AR.out.trans A1.out).set HO.out.1 _, (R1.out.set c _).congr (fun i _ => ?_)⟩, by simp [intOf]; have := HC.out; omega⟩
        by_cases e : i = c
        · subst e; simp [GV.out]
        · have e2 : (i < c + 1) ↔ i < c := by omega
          simp [e, e2]
      · have GV : Hid (g c = 0) := by have h := GE.out; rwa [if_neg c0] at h
        go_wp2
        refine ⟨⟨c + 1, by have := HC.out; omega, by simp, (AR.out.trans A1.out).set HO.out.1 _, (R1.out.set c _).congr (fun i _ => ?_)⟩, by simp [intOf]; have := HC.out; omega⟩
        by_cases e : i = c
        · subst e; simp [GV.out]
        · have e2 : (i < c + 1) ↔ i < c := by omega
          simp [e, e2]
    · have e6 : c = 4 := by omega
      subst e6
      have RG : Hid (wr.rowIs ob 2 4 (fun j => .int .i64 (g j))) := RR.out.congr (fun i hi => by simp [hi])
      have GB : ∀ i, i < 4 → -9223372036854775808 ≤ g i ∧ g i ≤ 9223372036854775807 := fun i hi => by
        obtain ⟨-, -, -, f4, f5, -⟩ := FA.out i hi
        rw [f5]
        split <;> omega
      have CC := hid (CUT.out wr ob (row_in RG.out GB))
      clear GB RR
      go_wp2_with fail
      refine CC.out.mono ?_
      rintro e9 v2 ⟨g2, cap, F, rfl, b2, hg2, hcap, rw2, hF⟩
      have A2 : Hid (Ab wr v2) := b2
      have LG : Hid (b ≠ ob ∧ b ≠ g2 ∧ 4 ≤ cap) := by
        have h1 := HO.out.2
        have h2 := RG.out.lt
        exact ⟨by omega, by omega, hcap⟩
      have IN : Hid (Ab w0 v2 ∧ v2.rowIs ob 2 4 (fun j => .int .i64 (g j)) ∧ v2.rowIs g2 2 cap F ∧ v2.rowIs b 2 N (fun i => .int .i64 (P 0 i))) := ⟨AV.out.trans (AR.out.trans A2.out), row_ab RG.out A2.out, rw2, row_ab RB.out (AR.out.trans A2.out)⟩
      have HFK := hid hF
      clear b2 hg2 hcap rw2 hF CC RG A2 AR
      go_wp2
      go_loopw [53] (fun iv wq => ∃ c : Nat, c ≤ 4 ∧ iv = .int .i64 (c : Nat) ∧ Ab w0 wq ∧ wq.rowIs ob 2 4 (fun j => .int .i64 (g j)) ∧ wq.rowIs g2 2 cap F ∧ wq.rowIs b 2 N (fun i => .int .i64 (P c i))) (fun iv _ => 4 - (intOf iv).toNat)
      case atStart => exact ⟨0, by omega, rfl, IN.out⟩
      case round =>
        obtain ⟨c, hc, rfl, a1, r1, r2, r3⟩ := hrel
        rename World => wq
        have AR := hid a1
        have RO := hid r1
        have RG := hid r2
        have RP := hid r3
        clear a1 r1 r2 r3 IN
        by_cases hcn : c < 4
        · have HC := hid hcn
          have hcI : (c : Int) < 4 := by omega
          obtain ⟨f1, f2, f3, -, -, f6⟩ := FA.out c hcn
          have z0 := RO.out.cell (show c < 4 from hcn)
          obtain ⟨gg, hgg⟩ : ∃ e, g c = e := ⟨_, rfl⟩
          rw [hgg] at z0
          have GG := hid hgg
          by_cases c0 : 0 < gg
          · have d0 : decide (0 < gg) = true := decide_eq_true c0
            have CA := hid (ARD.out _ c hcn AR.out)
            obtain ⟨y, hy⟩ : ∃ y, sg c * k c = y := ⟨_, rfl⟩
            obtain ⟨ee, hee⟩ : ∃ e, E c = e := ⟨_, rfl⟩
            obtain ⟨kk, hkk⟩ : ∃ e, k c = e := ⟨_, rfl⟩
            obtain ⟨ss, hss⟩ : ∃ e, sg c = e := ⟨_, rfl⟩
            have YE := hid hy
            rw [hy] at f6
            rw [hee, hss] at CA
            rw [hee] at f1 f3
            rw [hss, hkk] at hy
            have EE := hid hee
            have KK := hid hkk
            have y1 := f6.1
            have y2 := f6.2
            have e1 : (ee : Int) < N := by omega
            have e2 : (ee : Int) ≤ 65536 := by omega
            have FN := hid f1
            clear f1 f2 f3 f6 hee hkk hss hcn hc hgg
            go_wp2_with fail
            refine CA.out.mono ?_
            rintro e9 v3 ⟨rfl, b3⟩
            have A3 : Hid (Ab _ v3) := b3
            clear b3 CA z0
            have R3 := hid (row_ab RG.out A3.out)
            have R4 := hid (row_ab RP.out A3.out)
            have R5 := hid (row_ab RO.out A3.out)
            have z1 : v3.cell? ⟨g2, c, none⟩ = some (.int .i64 kk) := by
              have h := R3.out.cell (show c < cap by have := LG.out.2.2; have := HC.out; omega)
              rwa [HFK.out c HC.out, KK.out] at h
            have z2 := R4.out.cell FN.out
            have z3 := R4.out.frozen ee
            go_wp2
            refine ⟨⟨c + 1, by have := HC.out; omega, by simp, (AR.out.trans A3.out).set HB.out _, R5.out.setOther (Ne.symm LG.out.1) _, R3.out.setOther (Ne.symm LG.out.2.1) _, (R4.out.set ee _).congr (fun i hi => ?_)⟩, by simp [intOf]; have := HC.out; omega⟩
            have s := ST.out c HC.out i hi
            rw [EE.out, GG.out, YE.out] at s
            rw [s]
            by_cases e : i = ee
            · simp [e, c0]
            · simp [e]
          · have d0 : decide (0 < gg) = false := decide_eq_false c0
            clear f1 f2 f3 f6 hcn hc hgg
            go_wp2
            refine ⟨⟨c + 1, by have := HC.out; omega, by simp, AR.out, RO.out, RG.out, RP.out.congr (fun i hi => ?_)⟩, by simp [intOf]; have := HC.out; omega⟩
            have s := ST.out c HC.out i hi
            rw [GG.out, if_neg (fun h => c0 h.2)] at s
            rw [s]
        · have e6 : c = 4 := by omega
          subst e6
          go_wp2
          go_ret
          exact ⟨rfl, AR.out, RP.out⟩
set_option maxRecDepth 100000 in
set_option maxHeartbeats 16000000 in
theorem give17_no (gb N cell fb fo lf cf b : Nat) (wa has : Int) (E : Nat → Nat) (sg x g : Nat → Int) (P : Nat → Int) (w0 w : World) (hB : w0.heap.size ≤ b)
    (AV : Hid (Ab w0 w)) (RB : Hid (w.rowIs b 2 N (fun i => .int .i64 (P i))))
    (ARD : Hid (∀ u s, s < 4 → Ab w0 u → Calls Tryz.prog 35 #[.pointer (some ⟨gb, 0, none⟩), .int .i64 (cell : Nat), .int .i64 (s : Nat)] u fun e w' => e = .returned (.tuple #[.int .i64 (E s : Nat), .int .i64 (sg s)]) ∧ Below u.heap.size u w'))
    (FL : Hid (∀ u s, s < 4 → Ab w0 u → u.cell? ⟨fb, fo + E s, none⟩ = some (.int .i64 (x s))))
    (FA : Hid (∀ s, s < 4 → E s < N ∧ E s < lf ∧ E s ≤ 65536 ∧ (-4503599627370496 ≤ sg s * x s ∧ sg s * x s ≤ 4503599627370496) ∧ g s = (if 0 < sg s * x s then sg s * x s else 0)))
    (CUT : Hid (∀ u a, IsI u (some ⟨a, 0, none⟩) 4 g → Calls Tryz.prog 9 #[.int .i64 wa, .int .i64 has, .slice (some ⟨a, 0, none⟩) 4 4] u fun e w' => e = .returned (.tuple #[.slice none 0 0, .int .i64 1]) ∧ Below u.heap.size u w')) :
    Calls Tryz.prog 15 #[.pointer (some ⟨gb, 0, none⟩), .int .i64 (cell : Nat), .int .i64 wa, .int .i64 has, .slice (some ⟨fb, fo, none⟩) lf cf, .slice (some ⟨b, 0, none⟩) N N] w fun e w' => e = .returned (.bool false) ∧ Ab w0 w' ∧ w'.rowIs b 2 N (fun i => .int .i64 (P i)) := by
  have MK : (Instr.makeSlice 22 (.int .i64 4) (.int .i64 4)).run Tryz.prog w = .ok (.slice (some ⟨w.heap.size, 0, none⟩) 4 4) (w.alloc (.cells (madeCells #[.int .i64 0] 4) 2)) := run_make_row' (P := Tryz.prog) 22 2 (.int .i64 0) 8 Tryz.underlying22 Sh.info64 rfl .i64 .i64 4 (by omega) (by omega) w
  have HB := hid hB
  have BL : Hid (b < w.heap.size) := RB.out.lt
  clear hB
  obtain ⟨ob, hob⟩ : ∃ b, w.heap.size = b := ⟨_, rfl⟩
  have RW : Hid ((w.alloc (.cells (madeCells #[.int .i64 0] 4) 2)).rowIs ob 2 4 (fun _ => .int .i64 0)) := by rw [← hob]; exact World.rowIs_made _ _ _ _
  have A0 : Hid (Ab w (w.alloc (.cells (madeCells #[.int .i64 0] 4) 2))) := bl1 w _
  have HO : Hid (w.heap.size ≤ ob ∧ b < ob) := ⟨Nat.le_of_eq hob, by rw [← hob]; exact BL.out⟩
  generalize w.alloc (.cells (madeCells #[.int .i64 0] 4) 2) = wm at *
  go_enter Tryz.func15, Tryz.ntmps15
  go_wp2
  clear MK hob
  go_loopw [23] (fun iv wr => ∃ c : Nat, c ≤ 4 ∧ iv = .int .i64 (c : Nat) ∧ Ab w wr ∧ wr.rowIs ob 2 4 (fun j => .int .i64 (if j < c then g j else 0))) (fun iv _ => 4 - (intOf iv).toNat)
  case atStart => exact ⟨0, by omega, rfl, A0.out, RW.out.congr (fun i _ => by simp)⟩
  case round =>
    obtain ⟨c, hc, rfl, a1, r1⟩ := hrel
    have AR := hid a1
    have RR := hid r1
    clear a1 r1 A0 RW
    by_cases hcn : c < 4
    · have HC := hid hcn
      have hcI : (c : Int) < 4 := by omega
      have AW := hid (AV.out.trans AR.out)
      have CA := hid (ARD.out wr c hcn AW.out)
      obtain ⟨f1, f2, f3, f4, f5⟩ := FA.out c hcn
      obtain ⟨y, hy⟩ : ∃ y, sg c * x c = y := ⟨_, rfl⟩
      obtain ⟨ee, hee⟩ : ∃ e, E c = e := ⟨_, rfl⟩
      obtain ⟨xx, hxx⟩ : ∃ e, x c = e := ⟨_, rfl⟩
      obtain ⟨ss, hss⟩ : ∃ e, sg c = e := ⟨_, rfl⟩
      have GE := hid f5
      rw [hy] at f4 GE
      rw [hee, hss] at CA
      rw [hee] at f2 f3
      rw [hss, hxx] at hy
      have EE := hid hee
      have XX := hid hxx
      have y1 := f4.1
      have y2 := f4.2
      have e1 : (ee : Int) < lf := by omega
      have e2 : (ee : Int) ≤ 65536 := by omega
      clear f1 f4 f5 hee hxx hss hcn hc f2 f3
      go_wp2_with fail
      refine CA.out.mono ?_
      rintro e9 v1 ⟨rfl, b1⟩
      have A1 : Hid (Ab wr v1) := b1
      clear b1 CA
      have xc : v1.cell? ⟨fb, fo + ee, none⟩ = some (.int .i64 xx) := by
        have h := FL.out v1 c HC.out (AW.out.trans A1.out)
        rwa [EE.out, XX.out] at h
      have R1 := hid (row_ab RR.out A1.out)
      have z1 := R1.out.cell (show c < 4 from HC.out)
      have z2 := R1.out.frozen c
      by_cases c0 : 0 < y
      · have GV : Hid (g c = y) := by have h := GE.out; rwa [if_pos c0] at h
        go_wp2
        refine ⟨⟨c + 1, by have := HC.out; omega, by simp, (AR.out.trans A1.out).set HO.out.1 _, (R1.out.set c _).congr (fun i _ => ?_)⟩, by simp [intOf]; have := HC.out; omega⟩
        by_cases e : i = c
        · subst e; simp [GV.out]
        · have e2 : (i < c + 1) ↔ i < c := by omega
          simp [e, e2]
      · have GV : Hid (g c = 0) := by have h := GE.out; rwa [if_neg c0] at h
        go_wp2
        refine ⟨⟨c + 1, by have := HC.out; omega, by simp, (AR.out.trans A1.out).set HO.out.1 _, (R1.out.set c _).congr (fun i _ => ?_)⟩, by simp [intOf]; have := HC.out; omega⟩
        by_cases e : i = c
        · subst e; simp [GV.out]
        · have e2 : (i < c + 1) ↔ i < c := by omega
          simp [e, e2]
    · have e6 : c = 4 := by omega
      subst e6
      have RG : Hid (wr.rowIs ob 2 4 (fun j => .int .i64 (g j))) := RR.out.congr (fun i hi => by simp [hi])
      have GB : ∀ i, i < 4 → -9223372036854775808 ≤ g i ∧ g i ≤ 9223372036854775807 := fun i hi => by
        obtain ⟨-, -, -, f4, f5⟩ := FA.out i hi
        rw [f5]
        split <;> omega
      have CC := hid (CUT.out wr ob (row_in RG.out GB))
      clear GB RR
      go_wp2_with fail
      refine CC.out.mono ?_
      rintro e9 v2 ⟨rfl, b2⟩
      have A2 : Hid (Ab wr v2) := b2
      have R2 := hid (row_ab RB.out (AR.out.trans A2.out))
      clear b2 CC
      go_wp2
      go_ret
      exact ⟨rfl, AV.out.trans (AR.out.trans A2.out), R2.out⟩
set_option maxRecDepth 100000 in
set_option maxHeartbeats 4000000 in
theorem fits17_go (gb M N : Nat) (pw : Option Addr) (lw cw : Nat) (ph : Option Addr) (lh ch : Nat) (pf : Option Addr) (lf cf : Nat) (ok : Bool) (w : World)
    (CE : Hid (∀ v, Ab w v → Calls Tryz.prog 32 #[.pointer (some ⟨gb, 0, none⟩)] v fun e w' => e = .returned (.int .i64 (M : Nat)) ∧ w' = v))
    (ED : Hid (∀ v, Ab w v → Calls Tryz.prog 33 #[.pointer (some ⟨gb, 0, none⟩)] v fun e w' => e = .returned (.int .i64 (N : Nat)) ∧ w' = v))
    (OK : Hid (ok = true ↔ lw = M ∧ lh = M ∧ lf = N)) :
    Calls Tryz.prog 12 #[.pointer (some ⟨gb, 0, none⟩), .slice pw lw cw, .slice ph lh ch, .slice pf lf cf] w fun e w' => e = .returned (.bool ok) ∧ w' = w := by
  by_cases c1 : lw = M
  · have d1 : ((lw : Int) == (M : Int)) = true := by simp; omega
    by_cases c2 : lh = M
    · have d2 : ((lh : Int) == (M : Int)) = true := by simp; omega
      by_cases c3 : lf = N
      · have d3 : ((lf : Int) == (N : Int)) = true := by simp; omega
        have KO : Hid (ok = true) := OK.out.2 ⟨c1, c2, c3⟩
        clear OK c1 c2 c3
        go_enter Tryz.func12, Tryz.ntmps12
        go_wp2_with fail
        refine (CE.out _ (Ab.refl _)).mono ?_
        rintro e9 v9 ⟨rfl, hv9⟩
        have hv8 := hv9.symm
        subst hv8
        go_wp2_with fail
        refine (CE.out _ (Ab.refl _)).mono ?_
        rintro e9 v9 ⟨rfl, hv9⟩
        have hv8 := hv9.symm
        subst hv8
        go_wp2_with fail
        refine (ED.out _ (Ab.refl _)).mono ?_
        rintro e9 v9 ⟨rfl, hv9⟩
        have hv8 := hv9.symm
        subst hv8
        go_wp2
        go_ret
        exact ⟨by rw [KO.out]; rfl, rfl⟩
      · have d3 : ((lf : Int) == (N : Int)) = false := by simp; omega
        have KO : Hid (ok = false) := eq_false_of_ne_true (fun h => absurd ((OK.out.1 h).2.2) (by assumption))
        clear OK c1 c2 c3
        go_enter Tryz.func12, Tryz.ntmps12
        go_wp2_with fail
        refine (CE.out _ (Ab.refl _)).mono ?_
        rintro e9 v9 ⟨rfl, hv9⟩
        have hv8 := hv9.symm
        subst hv8
        go_wp2_with fail
        refine (CE.out _ (Ab.refl _)).mono ?_
        rintro e9 v9 ⟨rfl, hv9⟩
        have hv8 := hv9.symm
        subst hv8
        go_wp2_with fail
        refine (ED.out _ (Ab.refl _)).mono ?_
        rintro e9 v9 ⟨rfl, hv9⟩
        have hv8 := hv9.symm
        subst hv8
        go_wp2
        go_ret
        exact ⟨by rw [KO.out]; rfl, rfl⟩
    · have d2 : ((lh : Int) == (M : Int)) = false := by simp; omega
      have KO : Hid (ok = false) := eq_false_of_ne_true (fun h => absurd ((OK.out.1 h).2.1) (by assumption))
      clear OK c1 c2
      go_enter Tryz.func12, Tryz.ntmps12
      go_wp2_with fail
      refine (CE.out _ (Ab.refl _)).mono ?_
      rintro e9 v9 ⟨rfl, hv9⟩
      have hv8 := hv9.symm
      subst hv8
      go_wp2_with fail
      refine (CE.out _ (Ab.refl _)).mono ?_
      rintro e9 v9 ⟨rfl, hv9⟩
      have hv8 := hv9.symm
      subst hv8
      go_wp2
      go_ret
      exact ⟨by rw [KO.out]; rfl, rfl⟩
  · have d1 : ((lw : Int) == (M : Int)) = false := by simp; omega
    have KO : Hid (ok = false) := eq_false_of_ne_true (fun h => absurd ((OK.out.1 h).1) (by assumption))
    clear OK c1
    go_enter Tryz.func12, Tryz.ntmps12
    go_wp2_with fail
    refine (CE.out _ (Ab.refl _)).mono ?_
    rintro e9 v9 ⟨rfl, hv9⟩
    have hv8 := hv9.symm
    subst hv8
    go_wp2
    go_ret
    exact ⟨by rw [KO.out]; rfl, rfl⟩
end Tr
end Go.Proofs.YtidmgnllphnbbaaGreatDoor
