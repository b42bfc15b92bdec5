/-
  The long division: what it answers (layer 14).
-/
import Derived.Test.YtehadalddjbclaaYj
import Derived.Test.YtehadalddjbclaaUg
namespace Go.Proofs.Ytehadalddjbclaa
open Go.RowKit Go.Deep
namespace Sh
/-- both words moved up -/
theorem up_words {hi lo S P : Int} (hSP : S * P = 18446744073709551616) (hS : 0 < S) (hP : 0 < P) (hl : 0 ≤ lo) (hl2 : lo < 18446744073709551616) :
    0 ≤ lo / P ∧ lo / P < S ∧ (hi * S + lo / P) * 18446744073709551616 + lo * S % 18446744073709551616 = (hi * 18446744073709551616 + lo) * S := by
  have d := Int.mul_ediv_add_emod lo P
  have m0 := Int.emod_nonneg lo (show P ≠ 0 by omega)
  have m1 := Int.emod_lt_of_pos lo hP
  have q0 : 0 ≤ lo / P := Int.ediv_nonneg hl (by omega)
  have q1 : lo / P < S := Int.ediv_lt_of_lt_mul hP (by rw [hSP]; exact hl2)
  refine ⟨q0, q1, ?_⟩
  generalize lo / P = a at *
  generalize lo % P = b at *
  have e : lo * S = a * 18446744073709551616 + b * S := by
    rw [← d, ← hSP, Int.add_mul]
    congr 1
    ac_rfl
  have b0 : 0 ≤ b * S := Int.mul_nonneg m0 (by omega)
  have b1 : b * S < 18446744073709551616 := by
    rw [← hSP, Int.mul_comm S P]
    exact Int.mul_lt_mul_of_pos_right m1 hS
  have f : hi * 18446744073709551616 * S = hi * S * 18446744073709551616 := by ac_rfl
  rw [Int.add_mul, Int.add_mul, f, e]
  generalize hi * S = g at *
  generalize b * S = h at *
  omega
/-- two digits make the quotient -/
theorem two_digits {X Y U V u0 : Int} (hY : 0 < Y) (hX : X = U * 4294967296 + u0) (hV : V = U % Y * 4294967296 + u0) : U / Y * 4294967296 + V / Y = X / Y := by
  have d := Int.mul_ediv_add_emod U Y
  generalize U / Y = q at *
  generalize U % Y = r at *
  have e : X = V + Y * (q * 4294967296) := by
    have : Y * (q * 4294967296) = Y * q * 4294967296 := by ac_rfl
    omega
  rw [e, Int.add_mul_ediv_left _ _ (by omega)]
  omega
/-- the first guess -/
theorem guess {u a : Int} (ha : 0 < a) (hu : 0 ≤ u) (hu2 : u < 18446744073709551616) : 0 ≤ u / a ∧ u / a < 18446744073709551616 ∧ IntKind.u64.wrap (u - IntKind.u64.wrap (u / a * a)) = u - u / a * a ∧ 0 ≤ u - u / a * a ∧ u - u / a * a < a := by
  have d := Int.mul_ediv_add_emod u a
  have m0 := Int.emod_nonneg u (show a ≠ 0 by omega)
  have m1 := Int.emod_lt_of_pos u ha
  have q0 : 0 ≤ u / a := Int.ediv_nonneg hu (by omega)
  have q1 : u / a ≤ u := Int.ediv_le_self _ hu
  have t : 0 ≤ a * (u / a) := Int.mul_nonneg (by omega) q0
  rw [Int.mul_comm] at d t
  generalize u / a * a = p at *
  refine ⟨q0, by omega, ?_, by omega, by omega⟩
  rw [wrapu, wrapu]
  omega
theorem div_pos_at (hi lo y : Int) (w : World) (h0 : 0 < hi) (hy : hi < y) (hy2 : y < 9223372036854775808) (hl : 0 ≤ lo) (hl2 : lo < 18446744073709551616) :
    Calls Try.prog 12 #[.int .u64 hi, .int .u64 lo, .int .u64 y] w fun e w' => (∃ r, e = .returned (.tuple #[.int .u64 ((hi * 18446744073709551616 + lo) / y), .int .u64 r])) ∧ w' = w := by
  obtain ⟨n, rfl⟩ := Int.eq_ofNat_of_zero_le (show 0 ≤ y by omega)
  have n0 : n ≠ 0 := by omega
  have b1 := Nat.log2_self_le n0
  have b2 := Nat.lt_log2_self (n := n)
  have b3 : n.log2 < 63 := (Nat.log2_lt n0).2 (by omega)
  have b4 : 0 < n.log2 := by
    rcases Nat.eq_zero_or_pos n.log2 with z | z
    · rw [z] at b2; omega
    · exact z
  obtain ⟨k, hk⟩ : ∃ k : Nat, n.log2 + 1 + k = 64 := ⟨63 - n.log2, by omega⟩
  have LZ : ∀ v, Calls Try.prog 14 #[.int .u64 (n : Int)] v fun e w' => e = .returned (.int .i64 (k : Int)) ∧ w' = v := fun v => by
    have h := lead_at n v (by omega) (by omega)
    rwa [show (64 : Int) - ((n.log2 + 1 : Nat) : Int) = (k : Int) by omega] at h
  have hSPn : 2 ^ k * 2 ^ (64 - k) = 18446744073709551616 := by rw [← Nat.pow_add, show k + (64 - k) = 64 by omega]
  have Yl : 9223372036854775808 ≤ n * 2 ^ k := by
    have h := Nat.mul_le_mul_right (2 ^ k) b1
    rw [← Nat.pow_add, show n.log2 + k = 63 by omega] at h
    exact h
  have Yh : n * 2 ^ k < 18446744073709551616 := by
    have h := Nat.mul_lt_mul_of_pos_right b2 (pow_pos k)
    rw [← Nat.pow_add, hk] at h
    exact h
  have hk0 : 0 < k := by omega
  have hk1 : k < 64 := by omega
  have tk : ((k : Nat) : Int).toNat = k := Int.toNat_natCast k
  have tk2 : (64 - ((k : Nat) : Int)).toNat = 64 - k := by omega
  have hS : (0 : Int) < 2 ^ k := pow_pos' k
  have hP : (0 : Int) < 2 ^ (64 - k) := pow_pos' _
  have hSP : (2 : Int) ^ k * 2 ^ (64 - k) = 18446744073709551616 := by rw [two_pow_cast, two_pow_cast, ← Int.natCast_mul, hSPn]; rfl
  have Yl' : (9223372036854775808 : Int) ≤ (n : Int) * 2 ^ k := by rw [two_pow_cast, ← Int.natCast_mul]; omega
  have Yh' : (n : Int) * 2 ^ k < 18446744073709551616 := by rw [two_pow_cast, ← Int.natCast_mul]; omega
  obtain ⟨up0, up1, up2⟩ := up_words (hi := hi) hSP hS hP hl hl2
  have hhS : hi * 2 ^ k + 2 ^ k ≤ (n : Int) * 2 ^ k := by
    have h : (hi + 1) * 2 ^ k ≤ (n : Int) * 2 ^ k := Int.mul_le_mul_of_nonneg_right (by omega) (by omega)
    rwa [Int.add_mul, Int.one_mul] at h
  have hh0 : 0 ≤ hi * 2 ^ k := Int.mul_nonneg (by omega) (by omega)
  have eu : bits .or .u64 (IntKind.u64.wrap (hi * 2 ^ k)) (lo / 2 ^ (64 - k)) = hi * 2 ^ k + lo / 2 ^ (64 - k) := by
    rw [wrapu, Int.emod_eq_of_lt hh0 (by omega)]
    obtain ⟨h, rfl⟩ := Int.eq_ofNat_of_zero_le (show 0 ≤ hi by omega)
    obtain ⟨l, hlq⟩ := Int.eq_ofNat_of_zero_le up0
    rw [hlq] at up1 ⊢
    have hl1 : l < 2 ^ k := by rw [two_pow_cast] at up1; omega
    have hb : h * 2 ^ k + l < 18446744073709551616 := by
      rw [two_pow_cast, ← Int.natCast_mul] at hhS Yh'
      omega
    have o := or_add h l k hl1 hb
    rw [two_pow_cast, ← Int.natCast_mul, o]
    omega
  have fin : (hi * 18446744073709551616 + lo) / n = (hi * 18446744073709551616 + lo) * 2 ^ k / (n * 2 ^ k) := (Int.mul_ediv_mul_of_pos_left _ _ hS).symm
  rw [fin, ← up2]
  have eY : IntKind.u64.wrap ((n : Int) * 2 ^ k) = n * 2 ^ k := by rw [wrapu]; omega
  have el : IntKind.u64.wrap (lo * 2 ^ k) = lo * 2 ^ k % 18446744073709551616 := wrapu _
  have m10 : 0 ≤ lo * 2 ^ k % 18446744073709551616 ∧ lo * 2 ^ k % 18446744073709551616 < 18446744073709551616 := by omega
  have key := div_go hi lo n k
  rw [tk, tk2, eu, eY, el] at key
  have hu1 : hi * 2 ^ k + lo / 2 ^ (64 - k) < n * 2 ^ k := by omega
  have hu0 : 0 ≤ hi * 2 ^ k + lo / 2 ^ (64 - k) := by omega
  clear fin eY el eu up2 up0 up1 hhS hh0 hSP hSPn Yl Yh tk tk2 b1 b2 b3 hS hP
  generalize hi * 2 ^ k + lo / 2 ^ (64 - k) = u32 at *
  generalize lo * 2 ^ k % 18446744073709551616 = u10 at *
  generalize (n : Int) * 2 ^ k = Y at *
  have Y0 : 0 < Y := by omega
  have HY : Y = Y / 4294967296 * 4294967296 + Y % 4294967296 := by omega
  have ga := guess (u := u32) (a := Y / 4294967296) (by omega) hu0 (by omega)
  have sa := DI.start (y := Y) (yn1 := Y / 4294967296) (yn0 := Y % 4294967296) (u32 := u32) (u1 := u10 / 4294967296) (U := u32 * 4294967296 + u10 / 4294967296) HY (by omega) (by omega) rfl (by omega) hu0
  have q1s := DI.small (y := Y) (u32 := u32) (u1 := u10 / 4294967296) (U := u32 * 4294967296 + u10 / 4294967296) Y0 rfl (by omega) hu1
  have q1p : 0 ≤ (u32 * 4294967296 + u10 / 4294967296) / Y := Int.ediv_nonneg (by omega) (by omega)
  have dU := Int.mul_ediv_add_emod (u32 * 4294967296 + u10 / 4294967296) Y
  have mU0 := Int.emod_nonneg (u32 * 4294967296 + u10 / 4294967296) (show Y ≠ 0 by omega)
  have mU1 := Int.emod_lt_of_pos (u32 * 4294967296 + u10 / 4294967296) Y0
  have gb := guess (u := (u32 * 4294967296 + u10 / 4294967296) % Y) (a := Y / 4294967296) (by omega) mU0 (by omega)
  have sb := DI.start (y := Y) (yn1 := Y / 4294967296) (yn0 := Y % 4294967296) (u32 := (u32 * 4294967296 + u10 / 4294967296) % Y) (u1 := u10 % 4294967296) (U := (u32 * 4294967296 + u10 / 4294967296) % Y * 4294967296 + u10 % 4294967296) HY (by omega) (by omega) rfl (by omega) mU0
  have q0s := DI.small (y := Y) (u32 := (u32 * 4294967296 + u10 / 4294967296) % Y) (u1 := u10 % 4294967296) (U := (u32 * 4294967296 + u10 / 4294967296) % Y * 4294967296 + u10 % 4294967296) Y0 rfl (by omega) mU1
  have q0p : 0 ≤ ((u32 * 4294967296 + u10 / 4294967296) % Y * 4294967296 + u10 % 4294967296) / Y := Int.ediv_nonneg (by omega) (by omega)
  have en : IntKind.u64.wrap (IntKind.u64.wrap (IntKind.u64.wrap (u32 * 4294967296) + u10 / 4294967296) - IntKind.u64.wrap ((u32 * 4294967296 + u10 / 4294967296) / Y * Y)) = (u32 * 4294967296 + u10 / 4294967296) % Y := by
    rw [wrapu, wrapu, wrapu, wrapu]
    rw [Int.mul_comm] at dU
    generalize (u32 * 4294967296 + u10 / 4294967296) / Y * Y = B at *
    generalize (u32 * 4294967296 + u10 / 4294967296) % Y = C at *
    omega
  have R := two_digits (X := u32 * 18446744073709551616 + u10) (U := u32 * 4294967296 + u10 / 4294967296) (u0 := u10 % 4294967296) (V := (u32 * 4294967296 + u10 / 4294967296) % Y * 4294967296 + u10 % 4294967296) Y0 (by omega) rfl
  refine key Y (Y / 4294967296) (Y % 4294967296) u32 u10 (u10 / 4294967296) (u10 % 4294967296) _ _ _ _ _ _ _ _ _ _ w h0 hy hy2 hl hl2 LZ (by omega) (by omega) rfl (by omega) (by omega) rfl (and32 Y (by omega) (by omega)) rfl rfl (by omega) (by omega) rfl (and32 u10 (by omega) (by omega)) (by omega) (by omega) (by omega) (by omega) hu0 (by omega) (by omega) (by omega) (by omega) (by omega) rfl ga.2.2.1 ga.1 ga.2.1 ga.2.2.2.1 (by have := ga.2.2.2.2; omega) HY Y0 rfl ?_ hu1 rfl sa en mU0 (by omega) q1p q1s rfl gb.2.2.1 gb.1 gb.2.1 gb.2.2.2.1 (by have := gb.2.2.2.2; omega) rfl ?_ mU1 rfl sb q0p q0s R
  · show _ ≤ _; omega
  · show _ ≤ _; omega
/-- THE LONG DIVISION -/
theorem div_at (hi lo y : Int) (w : World) (h0 : 0 ≤ hi) (hy : hi < y) (hy2 : y < 9223372036854775808) (hl : 0 ≤ lo) (hl2 : lo < 18446744073709551616) :
    Calls Try.prog 12 #[.int .u64 hi, .int .u64 lo, .int .u64 y] w fun e w' => (∃ r, e = .returned (.tuple #[.int .u64 ((hi * 18446744073709551616 + lo) / y), .int .u64 r])) ∧ Below w.heap.size w w' := by
  by_cases c : hi = 0
  · subst c
    refine (div_zero_go lo y w hy (by omega) hl hl2).mono ?_
    rintro e w' ⟨he, rfl⟩
    rw [Int.zero_mul, Int.zero_add]
    exact ⟨he, (Ab.refl w).drew⟩
  · refine (div_pos_at hi lo y w (by omega) hy hy2 hl hl2).mono ?_
    rintro e w' ⟨he, rfl⟩
    exact ⟨he, Below.refl _ _⟩
end Sh
end Go.Proofs.Ytehadalddjbclaa
