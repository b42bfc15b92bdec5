/-
  Some of the texts of this proof, one behind the other.
-/
import Derived.Test.YtdigecacmibkpaaGreatDoorSq11
set_option maxRecDepth 100000
set_option maxHeartbeats 400000000
namespace Go.Proofs.YtdigecacmibkpaaGreatDoor
open Go.RowKit Tf
attribute [local go_sem] run_bits run_from raw_feq raw_fne raw_flt raw_fgt run_neg
def clampM (most : Int) : Int := if most < 0 then 0 else most
def clampB (x : Nat) (most : Int) : Int :=
  if isN x then 0 else if cOk .even x then min (max (cI .even x) (-clampM most)) (clampM most) else if fgt x 0 then clampM most else -clampM most
theorem clamp_nan (x : Nat) (most : Int) (n : isN x = true) (w : World) (hx : x < 18446744073709551616) :
    Calls Tryz.prog 72 #[.float .f64 x, .int .i64 most] w fun e w' => e = .returned (.int .i64 (0)) /\ ∃ n, w' = w.drewN n := by
  go_enter Tryz.func72, Tryz.ntmps72
  go_wp2_with fail
  refine (cIsNaN_any x _ hx).mono ?_
  rintro e w' ⟨rfl, rfl⟩
  go_wp2
  go_ret
  exact ⟨rfl, 0, rfl⟩
theorem clamp_pos (x : Nat) (most : Int) (m : Int) (n : isN x = false) (hm : (if most < 0 then 0 else most) = m) (_m0 : 0 <= m) (_m1 : m <= 9223372036854775807) (hi : cI .even x = 0) (ho : cOk .even x = false) (g : fgt x 0 = true) (w : World) (hx : x < 18446744073709551616) :
    Calls Tryz.prog 72 #[.float .f64 x, .int .i64 most] w fun e w' => e = .returned (.int .i64 (m)) /\ ∃ n, w' = w.drewN n := by
  go_enter Tryz.func72, Tryz.ntmps72
  go_wp2_with fail
  refine (cIsNaN_any x _ hx).mono ?_
  rintro e w' ⟨rfl, rfl⟩
  go_wp2_with fail
  refine (round_at x 0 false _ hx hi ho).mono ?_
  rintro e w' ⟨rfl, k, rfl⟩
  go_wp2
  go_ret
  exact ⟨rfl, k, rfl⟩
theorem clamp_neg (x : Nat) (most : Int) (m : Int) (n : isN x = false) (hm : (if most < 0 then 0 else most) = m) (m0 : 0 <= m) (m1 : m <= 9223372036854775807) (hi : cI .even x = 0) (ho : cOk .even x = false) (g : fgt x 0 = false) (w : World) (hx : x < 18446744073709551616) :
    Calls Tryz.prog 72 #[.float .f64 x, .int .i64 most] w fun e w' => e = .returned (.int .i64 (-m)) /\ ∃ n, w' = w.drewN n := by
  go_enter Tryz.func72, Tryz.ntmps72
  go_wp2_with fail
  refine (cIsNaN_any x _ hx).mono ?_
  rintro e w' ⟨rfl, rfl⟩
  go_wp2_with fail
  refine (round_at x 0 false _ hx hi ho).mono ?_
  rintro e w' ⟨rfl, k, rfl⟩
  go_wp2
  go_ret
  exact ⟨rfl, k, rfl⟩
theorem clamp_lo (x : Nat) (most : Int) (m : Int) (n : isN x = false) (hm : (if most < 0 then 0 else most) = m) (m0 : 0 <= m) (m1 : m <= 9223372036854775807) (i : Int) (hi : cI .even x = i) (ho : cOk .even x = true) (c : i < -m) (w : World) (hx : x < 18446744073709551616) :
    Calls Tryz.prog 72 #[.float .f64 x, .int .i64 most] w fun e w' => e = .returned (.int .i64 (-m)) /\ ∃ n, w' = w.drewN n := by
  go_enter Tryz.func72, Tryz.ntmps72
  go_wp2_with fail
  refine (cIsNaN_any x _ hx).mono ?_
  rintro e w' ⟨rfl, rfl⟩
  go_wp2_with fail
  refine (round_at x i true _ hx hi ho).mono ?_
  rintro e w' ⟨rfl, k, rfl⟩
  go_wp2
  go_ret
  exact ⟨rfl, k, rfl⟩
theorem clamp_hi (x : Nat) (most : Int) (m : Int) (n : isN x = false) (hm : (if most < 0 then 0 else most) = m) (m0 : 0 <= m) (m1 : m <= 9223372036854775807) (i : Int) (hi : cI .even x = i) (ho : cOk .even x = true) (c : m < i) (w : World) (hx : x < 18446744073709551616) :
    Calls Tryz.prog 72 #[.float .f64 x, .int .i64 most] w fun e w' => e = .returned (.int .i64 (m)) /\ ∃ n, w' = w.drewN n := by
  go_enter Tryz.func72, Tryz.ntmps72
  go_wp2_with fail
  refine (cIsNaN_any x _ hx).mono ?_
  rintro e w' ⟨rfl, rfl⟩
  go_wp2_with fail
  refine (round_at x i true _ hx hi ho).mono ?_
  rintro e w' ⟨rfl, k, rfl⟩
  go_wp2
  go_ret
  exact ⟨rfl, k, rfl⟩
theorem clamp_in (x : Nat) (most : Int) (m : Int) (n : isN x = false) (hm : (if most < 0 then 0 else most) = m) (m0 : 0 <= m) (m1 : m <= 9223372036854775807) (i : Int) (hi : cI .even x = i) (ho : cOk .even x = true) (c : -m <= i) (c' : i <= m) (w : World) (hx : x < 18446744073709551616) :
    Calls Tryz.prog 72 #[.float .f64 x, .int .i64 most] w fun e w' => e = .returned (.int .i64 (i)) /\ ∃ n, w' = w.drewN n := by
  go_enter Tryz.func72, Tryz.ntmps72
  go_wp2_with fail
  refine (cIsNaN_any x _ hx).mono ?_
  rintro e w' ⟨rfl, rfl⟩
  go_wp2_with fail
  refine (round_at x i true _ hx hi ho).mono ?_
  rintro e w' ⟨rfl, k, rfl⟩
  go_wp2
  go_ret
  exact ⟨rfl, k, rfl⟩
theorem clamp_at (x : Nat) (most r : Int) (w : World) (hx : x < 18446744073709551616) (hm : most <= 9223372036854775807) (hr : clampB x most = r) :
    Calls Tryz.prog 72 #[.float .f64 x, .int .i64 most] w fun e w' => e = .returned (.int .i64 r) /\ ∃ n, w' = w.drewN n := by
  subst hr
  unfold clampB
  have hm' : (if most < 0 then 0 else most) = clampM most := rfl
  have m0 : 0 <= clampM most := by unfold clampM; split <;> omega
  have m1 : clampM most <= 9223372036854775807 := by unfold clampM; split <;> omega
  generalize clampM most = m at *
  cases n : isN x
  · rw [if_neg (by decide)]
    cases ho : cOk .even x
    · have hi : cI .even x = 0 := by unfold cI; rw [ho]; rfl
      rw [if_neg (by decide)]
      cases g : fgt x 0
      · rw [if_neg (by decide)]; exact clamp_neg x most m n hm' m0 m1 hi ho g w hx
      · rw [if_pos rfl]; exact clamp_pos x most m n hm' m0 m1 hi ho g w hx
    · rw [if_pos rfl]
      by_cases c : cI .even x < -m
      · rw [show min (max (cI .even x) (-m)) m = -m by omega]
        exact clamp_lo x most m n hm' m0 m1 _ rfl ho c w hx
      · by_cases c2 : m < cI .even x
        · rw [show min (max (cI .even x) (-m)) m = m by omega]
          exact clamp_hi x most m n hm' m0 m1 _ rfl ho c2 w hx
        · rw [show min (max (cI .even x) (-m)) m = cI .even x by omega]
          exact clamp_in x most m n hm' m0 m1 _ rfl ho (by omega) (by omega) w hx
  · rw [if_pos rfl]; exact clamp_nan x most n w hx
end Go.Proofs.YtdigecacmibkpaaGreatDoor

namespace Go.Proofs.YtdigecacmibkpaaGreatDoor
open Tf
theorem sv_le_iff (x y : Nat) : sv x <= sv y ↔ rk x <= rk y := by
  have := sv_lt_iff y x
  omega
theorem cq_even_mono {x y : Nat} (h : sv x <= sv y) : cq .even x <= cq .even y := by
  by_cases c : cq .even x <= cq .even y
  · exact c
  · exfalso
    obtain ⟨a1, a2, a3⟩ := even_near x
    obtain ⟨b1, b2, b3⟩ := even_near y
    have o := onep
    have e : (cq .even y + 1) * one <= cq .even x * one := Int.mul_le_mul_of_nonneg_right (by omega) (by omega)
    rw [Int.add_mul, Int.one_mul] at e
    have p1 := a3 (.inr (by omega))
    have p2 := b3 (.inl (by omega))
    have e2 : cq .even x * one = (cq .even y + 1) * one := by rw [Int.add_mul, Int.one_mul]; omega
    have := Int.eq_of_mul_eq_mul_right (by omega) e2
    omega
theorem cOk_rk (way : Ieee.Toward) (x : Nat) (hx : x < 18446744073709551616) (n : isN x = false) : cOk way x = (decide (-4890909195324358656 <= rk x) && decide (rk x < 4890909195324358656)) := by
  rw [cOk_wOk way x hx, wOk_rk x hx, n]; simp
theorem fgt_zero (x : Nat) (hx : x < 18446744073709551616) (n : isN x = false) : fgt x 0 = decide (0 < rk x) := by
  have e : rk 0 = 0 := by decide
  have n0 : isN 0 = false := by decide
  rw [fgt_rk x 0 hx (by decide), n, n0, e]; simp
theorem cI_eq (way : Ieee.Toward) (x : Nat) (h : cOk way x = true) : cI way x = cq way x := by unfold cI; rw [h, if_pos rfl]
theorem clampM_nonneg (most : Int) : 0 <= clampM most := by unfold clampM; split <;> omega
theorem clampB_num (x : Nat) (most : Int) (hx : x < 18446744073709551616) (n : isN x = false) :
    clampB x most = if rk x < -4890909195324358656 then -clampM most else if rk x < 4890909195324358656 then min (max (cq .even x) (-clampM most)) (clampM most) else clampM most := by
  have hm := clampM_nonneg most
  have hk := cOk_rk .even x hx n
  have hg := fgt_zero x hx n
  unfold clampB
  rw [n, if_neg (by decide)]
  by_cases c1 : rk x < -4890909195324358656
  · have o : cOk .even x = false := by rw [hk, decide_eq_false (by omega)]; rfl
    rw [if_pos c1, o, hg, if_neg (by decide), decide_eq_false (by omega), if_neg (by decide)]
  · rw [if_neg c1]
    by_cases c2 : rk x < 4890909195324358656
    · have o : cOk .even x = true := by rw [hk, decide_eq_true (by omega), decide_eq_true c2]; rfl
      rw [if_pos c2, o, if_pos rfl, cI_eq .even x o]
    · have o : cOk .even x = false := by rw [hk, decide_eq_false c2, Bool.and_false]
      rw [if_neg c2, o, hg, if_neg (by decide), decide_eq_true (by omega), if_pos rfl]
theorem clampB_mono (x y : Nat) (most : Int) (hx : x < 18446744073709551616) (hy : y < 18446744073709551616) (nx : isN x = false) (ny : isN y = false) (h : rk x <= rk y) : clampB x most <= clampB y most := by
  have hm := clampM_nonneg most
  have hc := cq_even_mono ((sv_le_iff x y).2 h)
  rw [clampB_num x most hx nx, clampB_num y most hy ny]
  repeat' split
  all_goals omega
end Go.Proofs.YtdigecacmibkpaaGreatDoor

namespace Go.Proofs.YtdigecacmibkpaaGreatDoor.Ref2
open Go.RowKit Tf
attribute [local go_sem] run_bits run_from raw_feq raw_fne raw_flt raw_fgt run_neg
theorem rawBits_any (x : Nat) (w : World) :
    Calls Tryz.prog 49 #[.float .f64 x] w fun e w' => e = .returned (.int .u64 (x : Nat)) /\ w' = w := by
  go_enter Tryz.func49, Tryz.ntmps49
  go_wp2
  go_ret
  exact ⟨rfl, rfl⟩
theorem from_at (a : Int) (r : Nat) (w : World) (hr : a.toNat = r) :
    Calls Tryz.prog 48 #[.int .u64 a] w fun e w' => e = .returned (.float .f64 r) /\ w' = w := by
  subst hr; exact from_any a w
def pm (x : Nat) : Nat := if mg x / 4503599627370496 = 0 then mg x else mg x % 4503599627370496 + 4503599627370496
def pe (x : Nat) : Int := if mg x / 4503599627370496 = 0 then -1074 else ((mg x / 4503599627370496 : Nat) : Int) - 1075
theorem pm_lt (x : Nat) : pm x < 9007199254740992 := by unfold pm; split <;> omega
theorem pe_ge (x : Nat) : -1074 <= pe x := by unfold pe; split <;> omega
theorem mv_parts (x : Nat) : mv (mg x) = pm x * 2 ^ (pe x + 1074).toNat := by
  have e : (2 : Nat) ^ 52 = 4503599627370496 := by decide
  unfold mv mag pm pe
  rw [e]
  by_cases h : mg x / 4503599627370496 = 0
  · rw [if_pos h, if_pos h, if_pos (by omega)]; simp
  · rw [if_neg h, if_neg h, if_neg (by omega)]
    have e2 : (((mg x / 4503599627370496 : Nat) : Int) - 1075 + 1074).toNat = mg x / 4503599627370496 - 1 := by omega
    rw [e2, Nat.add_comm]
theorem parts_inf (x : Nat) (n : Bool) (w : World) (hn : ((x : Int) / 9223372036854775808 == 1) = n) (h1 : (x : Int) / 4503599627370496 % 2048 = 2047) (h2 : ((x : Int) % 4503599627370496 == 0) = true) :
    Calls Tryz.prog 132 #[.float .f64 x] w fun e w' => e = .returned (.tuple #[.bool n, .int .u64 0, .int .i64 0, .int .i64 1]) /\ w' = w := by
  go_enter Tryz.func132, Tryz.ntmps132
  go_wp2_with fail
  refine (rawBits_any x _).mono ?_
  rintro e w' ⟨rfl, rfl⟩
  go_wp2
  refine bodyPost_ret (v := .tuple #[.bool n, .int .u64 0, .int .i64 0, .int .i64 1]) (by simp [results, Tryz.results132, go_sem]) rfl ⟨rfl, rfl⟩
theorem parts_nan (x : Nat) (n : Bool) (w : World) (hn : ((x : Int) / 9223372036854775808 == 1) = n) (h1 : (x : Int) / 4503599627370496 % 2048 = 2047) (h2 : ((x : Int) % 4503599627370496 == 0) = false) :
    Calls Tryz.prog 132 #[.float .f64 x] w fun e w' => e = .returned (.tuple #[.bool n, .int .u64 0, .int .i64 0, .int .i64 2]) /\ w' = w := by
  go_enter Tryz.func132, Tryz.ntmps132
  go_wp2_with fail
  refine (rawBits_any x _).mono ?_
  rintro e w' ⟨rfl, rfl⟩
  go_wp2
  refine bodyPost_ret (v := .tuple #[.bool n, .int .u64 0, .int .i64 0, .int .i64 2]) (by simp [results, Tryz.results132, go_sem]) rfl ⟨rfl, rfl⟩
theorem parts_sub (x : Nat) (n : Bool) (w : World) (hn : ((x : Int) / 9223372036854775808 == 1) = n) (h1 : (x : Int) / 4503599627370496 % 2048 = 0) (m : Nat) (h2 : (x : Int) % 4503599627370496 = m) :
    Calls Tryz.prog 132 #[.float .f64 x] w fun e w' => e = .returned (.tuple #[.bool n, .int .u64 (m : Nat), .int .i64 (-1074), .int .i64 0]) /\ w' = w := by
  go_enter Tryz.func132, Tryz.ntmps132
  go_wp2_with fail
  refine (rawBits_any x _).mono ?_
  rintro e w' ⟨rfl, rfl⟩
  go_wp2
  refine bodyPost_ret (v := .tuple #[.bool n, .int .u64 (m : Nat), .int .i64 (-1074), .int .i64 0]) (by simp [results, Tryz.results132, go_sem, h2]) rfl ⟨rfl, rfl⟩
theorem parts_nor (x : Nat) (n : Bool) (w : World) (hn : ((x : Int) / 9223372036854775808 == 1) = n) (f : Int) (h1 : (x : Int) / 4503599627370496 % 2048 = f) (h3 : (f == 2047) = false) (h4 : (f == 0) = false) (m : Nat) (h2 : (x : Int) % 4503599627370496 = m) :
    Calls Tryz.prog 132 #[.float .f64 x] w fun e w' => e = .returned (.tuple #[.bool n, .int .u64 ((m : Nat) + 4503599627370496), .int .i64 (f - 1075), .int .i64 0]) /\ w' = w := by
  go_enter Tryz.func132, Tryz.ntmps132
  go_wp2_with fail
  refine (rawBits_any x _).mono ?_
  rintro e w' ⟨rfl, rfl⟩
  go_wp2
  refine bodyPost_ret (v := .tuple #[.bool n, .int .u64 ((m : Nat) + 4503599627370496), .int .i64 (f - 1075), .int .i64 0]) (by simp [results, Tryz.results132, go_sem]) rfl ⟨rfl, rfl⟩
theorem parts_fin (x : Nat) (w : World) (hx : x < 18446744073709551616) (fx : mg x < 9218868437227405312) :
    Calls Tryz.prog 132 #[.float .f64 x] w fun e w' => e = .returned (.tuple #[.bool (ng x), .int .u64 (pm x : Nat), .int .i64 (pe x), .int .i64 0]) /\ w' = w := by
  have hn : ((x : Int) / 9223372036854775808 == 1) = ng x := by
    unfold ng
    by_cases c : 9223372036854775808 <= x
    · rw [decide_eq_true c]; simp; omega
    · rw [decide_eq_false c]; simp; omega
  have hf : (x : Int) / 4503599627370496 % 2048 = ((mg x / 4503599627370496 : Nat) : Int) := by unfold mg; omega
  have hm : (x : Int) % 4503599627370496 = ((mg x % 4503599627370496 : Nat) : Int) := by unfold mg; omega
  unfold pm pe
  by_cases c : mg x / 4503599627370496 = 0
  · rw [if_pos c, if_pos c]
    have e : mg x % 4503599627370496 = mg x := by omega
    rw [e] at hm
    exact parts_sub x _ w hn (by rw [hf, c]; rfl) _ hm
  · rw [if_neg c, if_neg c]
    have := parts_nor x _ w hn _ hf (by simp; omega) (by simp; omega) _ hm
    have e : ((mg x % 4503599627370496 + 4503599627370496 : Nat) : Int) = ((mg x % 4503599627370496 : Nat) : Int) + 4503599627370496 := by omega
    rw [e]; exact this
theorem parts_i (x : Nat) (w : World) (hx : x < 18446744073709551616) (fx : mg x = 9218868437227405312) :
    Calls Tryz.prog 132 #[.float .f64 x] w fun e w' => e = .returned (.tuple #[.bool (ng x), .int .u64 0, .int .i64 0, .int .i64 1]) /\ w' = w := by
  have hn : ((x : Int) / 9223372036854775808 == 1) = ng x := by
    unfold ng
    by_cases c : 9223372036854775808 <= x
    · rw [decide_eq_true c]; simp; omega
    · rw [decide_eq_false c]; simp; omega
  unfold mg at fx
  exact parts_inf x _ w hn (by omega) (by simp; omega)
theorem parts_n (x : Nat) (w : World) (hx : x < 18446744073709551616) (n : isN x = true) :
    Calls Tryz.prog 132 #[.float .f64 x] w fun e w' => e = .returned (.tuple #[.bool (ng x), .int .u64 0, .int .i64 0, .int .i64 2]) /\ w' = w := by
  have hn : ((x : Int) / 9223372036854775808 == 1) = ng x := by
    unfold ng
    by_cases c : 9223372036854775808 <= x
    · rw [decide_eq_true c]; simp; omega
    · rw [decide_eq_false c]; simp; omega
  have h := isN_true.1 n
  unfold mg at h
  exact parts_nan x _ w hn (by omega) (by simp; omega)
def rc (m k : Nat) : Int := if m % 2 ^ k = 0 then 0 else if 2 * (m % 2 ^ k) < 2 ^ k then 1 else if 2 * (m % 2 ^ k) = 2 ^ k then 2 else 3
theorem down_g0 (m k : Nat) (w : World) (h : (63 : Int) < k) (h0 : m = 0) :
    Calls Tryz.prog 155 #[.int .u64 (m : Nat), .int .i64 (k : Nat)] w fun e w' => e = .returned (.tuple #[.int .u64 0, .int .i64 0]) /\ w' = w := by
  subst h0
  go_enter Tryz.func155, Tryz.ntmps155
  go_wp2
  go_ret2
  exact ⟨rfl, rfl⟩
theorem down_g1 (m k : Nat) (w : World) (h : (63 : Int) < k) (h0 : ((m : Int) == 0) = false) :
    Calls Tryz.prog 155 #[.int .u64 (m : Nat), .int .i64 (k : Nat)] w fun e w' => e = .returned (.tuple #[.int .u64 0, .int .i64 1]) /\ w' = w := by
  go_enter Tryz.func155, Tryz.ntmps155
  go_wp2
  go_ret2
  exact ⟨rfl, rfl⟩
theorem down_0 (m k : Nat) (w : World) (h : ¬ (63 : Int) < k) (k1 : (1 : Int) <= k) (q p r g : Nat) (q1 : (m : Int) / 2 ^ k = (q : Int)) (q2 : IntKind.u64.wrap ((q : Int) * 2 ^ k) = (p : Int)) (q3 : IntKind.u64.wrap ((m : Int) - (p : Int)) = (r : Int)) (q4 : IntKind.u64.wrap (2 ^ (k - 1)) = (g : Int)) (c : ((r : Int) == 0) = true) :
    Calls Tryz.prog 155 #[.int .u64 (m : Nat), .int .i64 (k : Nat)] w fun e w' => e = .returned (.tuple #[.int .u64 (q : Nat), .int .i64 0]) /\ w' = w := by
  go_enter Tryz.func155, Tryz.ntmps155
  go_wp2
  go_ret2
  exact ⟨rfl, rfl⟩
theorem down_1 (m k : Nat) (w : World) (h : ¬ (63 : Int) < k) (k1 : (1 : Int) <= k) (q p r g : Nat) (q1 : (m : Int) / 2 ^ k = (q : Int)) (q2 : IntKind.u64.wrap ((q : Int) * 2 ^ k) = (p : Int)) (q3 : IntKind.u64.wrap ((m : Int) - (p : Int)) = (r : Int)) (q4 : IntKind.u64.wrap (2 ^ (k - 1)) = (g : Int)) (c : ((r : Int) == 0) = false) (c1 : r < g) :
    Calls Tryz.prog 155 #[.int .u64 (m : Nat), .int .i64 (k : Nat)] w fun e w' => e = .returned (.tuple #[.int .u64 (q : Nat), .int .i64 1]) /\ w' = w := by
  go_enter Tryz.func155, Tryz.ntmps155
  go_wp2
  go_ret2
  exact ⟨rfl, rfl⟩
theorem down_2 (m k : Nat) (w : World) (h : ¬ (63 : Int) < k) (k1 : (1 : Int) <= k) (q p r g : Nat) (q1 : (m : Int) / 2 ^ k = (q : Int)) (q2 : IntKind.u64.wrap ((q : Int) * 2 ^ k) = (p : Int)) (q3 : IntKind.u64.wrap ((m : Int) - (p : Int)) = (r : Int)) (q4 : IntKind.u64.wrap (2 ^ (k - 1)) = (g : Int)) (c : ((r : Int) == 0) = false) (c1 : ¬ r < g) (c2 : ((r : Int) == (g : Int)) = true) :
    Calls Tryz.prog 155 #[.int .u64 (m : Nat), .int .i64 (k : Nat)] w fun e w' => e = .returned (.tuple #[.int .u64 (q : Nat), .int .i64 2]) /\ w' = w := by
  go_enter Tryz.func155, Tryz.ntmps155
  go_wp2
  go_ret2
  exact ⟨rfl, rfl⟩
theorem down_3 (m k : Nat) (w : World) (h : ¬ (63 : Int) < k) (k1 : (1 : Int) <= k) (q p r g : Nat) (q1 : (m : Int) / 2 ^ k = (q : Int)) (q2 : IntKind.u64.wrap ((q : Int) * 2 ^ k) = (p : Int)) (q3 : IntKind.u64.wrap ((m : Int) - (p : Int)) = (r : Int)) (q4 : IntKind.u64.wrap (2 ^ (k - 1)) = (g : Int)) (c : ((r : Int) == 0) = false) (c1 : ¬ r < g) (c2 : ((r : Int) == (g : Int)) = false) :
    Calls Tryz.prog 155 #[.int .u64 (m : Nat), .int .i64 (k : Nat)] w fun e w' => e = .returned (.tuple #[.int .u64 (q : Nat), .int .i64 3]) /\ w' = w := by
  go_enter Tryz.func155, Tryz.ntmps155
  go_wp2
  go_ret2
  exact ⟨rfl, rfl⟩
theorem wrap_id (a : Int) (h0 : 0 <= a) (h1 : a < 18446744073709551616) : IntKind.u64.wrap a = a := by
  simp [IntKind.wrap, IntKind.bits, IntKind.signed]; omega
def okm (m k : Nat) : Prop := m <= 9223372036854775808 /\ (63 < k -> m < 9223372036854775808)
theorem okm_of (m k : Nat) (h : m < 9223372036854775808) : okm m k := ⟨by omega, fun _ => h⟩
theorem down_any (m k : Nat) (w : World) (hm' : okm m k) (hk : 1 <= k) :
    Calls Tryz.prog 155 #[.int .u64 (m : Nat), .int .i64 (k : Nat)] w fun e w' => e = .returned (.tuple #[.int .u64 ((m / 2 ^ k : Nat) : Int), .int .i64 (rc m k)]) /\ w' = w := by
  have hm : m <= 9223372036854775808 := hm'.1
  by_cases c : 63 < k
  · have hm2 := hm'.2 c
    have hp : 2 ^ 64 <= 2 ^ k := Nat.pow_le_pow_right (by omega) (by omega)
    have e1 : m / 2 ^ k = 0 := Nat.div_eq_of_lt (by omega)
    have e2 : m % 2 ^ k = m := Nat.mod_eq_of_lt (by omega)
    unfold rc
    rw [e1, e2]
    by_cases z : m = 0
    · rw [if_pos z]; exact down_g0 m k w (by omega) z
    · rw [if_neg z, if_pos (by omega)]; exact down_g1 m k w (by omega) (by simp; omega)
  · have hp0 := pow_pos k
    have hp : 2 ^ k <= 2 ^ 63 := Nat.pow_le_pow_right (by omega) (by omega)
    have hd := Nat.div_add_mod m (2 ^ k)
    have hr := Nat.mod_lt m hp0
    obtain ⟨j, rfl⟩ : ∃ j, k = j + 1 := ⟨k - 1, by omega⟩
    have hj : 2 ^ (j + 1) = 2 * 2 ^ j := by rw [Nat.pow_succ]; omega
    have hj0 := pow_pos j
    have q1 : (m : Int) / 2 ^ (j + 1) = ((m / 2 ^ (j + 1) : Nat) : Int) := by
      rw [Int.natCast_ediv]; rfl
    have q2 : IntKind.u64.wrap (((m / 2 ^ (j + 1) : Nat) : Int) * 2 ^ (j + 1)) = ((m / 2 ^ (j + 1) * 2 ^ (j + 1) : Nat) : Int) := by
      have e : ((m / 2 ^ (j + 1) : Nat) : Int) * 2 ^ (j + 1) = ((m / 2 ^ (j + 1) * 2 ^ (j + 1) : Nat) : Int) := by
        rw [Int.natCast_mul]; rfl
      rw [e, wrap_id]
      · omega
      · rw [Nat.mul_comm]; omega
    have q3 : IntKind.u64.wrap ((m : Int) - ((m / 2 ^ (j + 1) * 2 ^ (j + 1) : Nat) : Int)) = ((m % 2 ^ (j + 1) : Nat) : Int) := by
      rw [Nat.mul_comm, wrap_id] <;> omega
    have q4 : IntKind.u64.wrap (2 ^ (j + 1 - 1)) = ((2 ^ j : Nat) : Int) := by
      rw [show j + 1 - 1 = j by omega]
      have e : (2 : Int) ^ j = ((2 ^ j : Nat) : Int) := by rw [Int.natCast_pow]; rfl
      rw [e, wrap_id] <;> omega
    unfold rc
    rw [hj] at *
    generalize m / (2 * 2 ^ j) = q at *
    generalize m % (2 * 2 ^ j) = r at *
    rw [hj] at *
    by_cases z : r = 0
    · rw [if_pos z]; exact down_0 m (j + 1) w (by omega) (by omega) q _ r _ q1 q2 q3 q4 (by simp; omega)
    · have z' : ((r : Int) == 0) = false := by simp; omega
      rw [if_neg z]
      by_cases c1 : r < 2 ^ j
      · rw [if_pos (by omega)]; exact down_1 m (j + 1) w (by omega) (by omega) q _ r _ q1 q2 q3 q4 z' c1
      · rw [if_neg (by omega)]
        by_cases c2 : r = 2 ^ j
        · rw [if_pos (by omega)]; exact down_2 m (j + 1) w (by omega) (by omega) q _ r _ q1 q2 q3 q4 z' c1 (by rw [c2]; simp)
        · rw [if_neg (by omega)]; exact down_3 m (j + 1) w (by omega) (by omega) q _ r _ q1 q2 q3 q4 z' c1 (by
            have : ¬ (r : Int) = ((2 ^ j : Nat) : Int) := by omega
            simp only [beq_eq_false_iff_ne, ne_eq, this, not_false_eq_true])
end Go.Proofs.YtdigecacmibkpaaGreatDoor.Ref2

namespace Go.Proofs.YtdigecacmibkpaaGreatDoor.Ref2
open Go.RowKit Tf
attribute [local go_sem] run_bits run_from raw_feq raw_fne raw_flt raw_fgt run_neg
theorem down_at (m k q : Nat) (c : Int) (w : World) (hm : okm m k) (hk : 1 <= k) (hq : m / 2 ^ k = q) (hc : rc m k = c) :
    Calls Tryz.prog 155 #[.int .u64 (m : Nat), .int .i64 (k : Nat)] w fun e w' => e = .returned (.tuple #[.int .u64 (q : Nat), .int .i64 c]) /\ w' = w := by
  subst hq hc; exact down_any m k w hm hk
theorem near_01 (m k q : Nat) (w : World) (hm : Hid (okm m k)) (hk : 1 <= k) (hq : Hid (m / 2 ^ k = q)) (_q1 : (q : Int) + 1 < 18446744073709551616) (c : Int) (hc : Hid (rc m k = c)) (c3 : (c == 3) = false) (c2 : (c == 2) = false) :
    Calls Tryz.prog 133 #[.int .u64 (m : Nat), .int .i64 (k : Nat)] w fun e w' => e = .returned (.int .u64 ((q : Nat))) /\ w' = w := by
  go_enter Tryz.func133, Tryz.ntmps133
  go_wp2_with fail
  refine (down_at m k q c _ hm.out hk hq.out hc.out).mono ?_
  rintro e w' ⟨rfl, rfl⟩
  go_wp2
  go_ret
  exact ⟨rfl, rfl⟩
theorem near_3 (m k q : Nat) (w : World) (hm : Hid (okm m k)) (hk : 1 <= k) (hq : Hid (m / 2 ^ k = q)) (q1 : (q : Int) + 1 < 18446744073709551616) (hc : Hid (rc m k = 3)) :
    Calls Tryz.prog 133 #[.int .u64 (m : Nat), .int .i64 (k : Nat)] w fun e w' => e = .returned (.int .u64 ((q : Int) + 1)) /\ w' = w := by
  go_enter Tryz.func133, Tryz.ntmps133
  go_wp2_with fail
  refine (down_at m k q 3 _ hm.out hk hq.out hc.out).mono ?_
  rintro e w' ⟨rfl, rfl⟩
  go_wp2
  go_ret
  exact ⟨rfl, rfl⟩
theorem near_2o (m k q : Nat) (w : World) (hm : Hid (okm m k)) (hk : 1 <= k) (hq : Hid (m / 2 ^ k = q)) (q1 : (q : Int) + 1 < 18446744073709551616) (hc : Hid (rc m k = 2)) (o : ((q : Int) % 2 == 1) = true) :
    Calls Tryz.prog 133 #[.int .u64 (m : Nat), .int .i64 (k : Nat)] w fun e w' => e = .returned (.int .u64 ((q : Int) + 1)) /\ w' = w := by
  go_enter Tryz.func133, Tryz.ntmps133
  go_wp2_with fail
  refine (down_at m k q 2 _ hm.out hk hq.out hc.out).mono ?_
  rintro e w' ⟨rfl, rfl⟩
  go_wp2
  go_ret
  exact ⟨rfl, rfl⟩
theorem near_2e (m k q : Nat) (w : World) (hm : Hid (okm m k)) (hk : 1 <= k) (hq : Hid (m / 2 ^ k = q)) (_q1 : (q : Int) + 1 < 18446744073709551616) (hc : Hid (rc m k = 2)) (o : ((q : Int) % 2 == 1) = false) :
    Calls Tryz.prog 133 #[.int .u64 (m : Nat), .int .i64 (k : Nat)] w fun e w' => e = .returned (.int .u64 ((q : Nat))) /\ w' = w := by
  go_enter Tryz.func133, Tryz.ntmps133
  go_wp2_with fail
  refine (down_at m k q 2 _ hm.out hk hq.out hc.out).mono ?_
  rintro e w' ⟨rfl, rfl⟩
  go_wp2
  go_ret
  exact ⟨rfl, rfl⟩
theorem near_at (m k r : Nat) (w : World) (hm : okm m k) (hk : 1 <= k) (hr : rne m (2 ^ k) = r) :
    Calls Tryz.prog 133 #[.int .u64 (m : Nat), .int .i64 (k : Nat)] w fun e w' => e = .returned (.int .u64 (r : Nat)) /\ w' = w := by
  subst hr
  have hq : m / 2 ^ k <= m := Nat.div_le_self ..
  have l : ((m / 2 ^ k : Nat) : Int) + 1 < 18446744073709551616 := by have := hm.1; omega
  unfold rne
  have hrc : rc m k = if m % 2 ^ k = 0 then 0 else if 2 * (m % 2 ^ k) < 2 ^ k then 1 else if 2 * (m % 2 ^ k) = 2 ^ k then 2 else 3 := rfl
  have hp := pow_pos k
  by_cases c0 : m % 2 ^ k = 0
  · rw [if_pos c0] at hrc
    rw [if_neg (by omega)]
    exact near_01 m k _ w hm hk rfl l 0 hrc (by decide) (by decide)
  · rw [if_neg c0] at hrc
    by_cases c1 : 2 * (m % 2 ^ k) < 2 ^ k
    · rw [if_pos c1] at hrc
      rw [if_neg (by omega)]
      exact near_01 m k _ w hm hk rfl l 1 hrc (by decide) (by decide)
    · rw [if_neg c1] at hrc
      by_cases c2 : 2 * (m % 2 ^ k) = 2 ^ k
      · rw [if_pos c2] at hrc
        by_cases c3 : m / 2 ^ k % 2 = 1
        · rw [if_pos (.inr ⟨c2.symm, c3⟩)]
          exact near_2o m k _ w hm hk rfl l hrc (by simp only [beq_iff_eq]; omega)
        · rw [if_neg (by omega)]
          exact near_2e m k _ w hm hk rfl l hrc (by simp only [beq_eq_false_iff_ne, ne_eq]; omega)
      · rw [if_neg c2] at hrc
        rw [if_pos (by omega)]
        exact near_3 m k _ w hm hk rfl l hrc
def wk (neg : Bool) (m : Nat) : Bool := if neg then decide (m <= 9223372036854775808) else decide (m < 9223372036854775808)
def wi (neg : Bool) (m : Nat) : Int := if wk neg m then (if neg then -(m : Int) else (m : Int)) else 0
theorem whole_n (m : Nat) (w : World) (h : (m : Int) <= 9223372036854775808) (e1 : wrap64 (IntKind.u64.wrap (-(m : Int))) = -(m : Int)) :
    Calls Tryz.prog 163 #[.bool true, .int .u64 (m : Nat)] w fun e w' => e = .returned (.tuple #[.int .i64 (-(m : Int)), .bool true]) /\ w' = w := by
  go_enter Tryz.func163, Tryz.ntmps163
  go_wp2
  go_ret2
  refine ⟨?_, rfl⟩
  show Ending.returned (.tuple #[.int .i64 (wrap64 (IntKind.u64.wrap (-(m : Int)))), .bool true]) = _
  rw [e1]
theorem whole_no (m : Nat) (w : World) (h : ¬ (m : Int) <= 9223372036854775808) :
    Calls Tryz.prog 163 #[.bool true, .int .u64 (m : Nat)] w fun e w' => e = .returned (.tuple #[.int .i64 0, .bool false]) /\ w' = w := by
  go_enter Tryz.func163, Tryz.ntmps163
  go_wp2
  go_ret2
  exact ⟨rfl, rfl⟩
theorem whole_p (m : Nat) (w : World) (h : decide ((9223372036854775808 : Int) <= (m : Int)) = false) (e1 : wrap64 (m : Int) = (m : Int)) :
    Calls Tryz.prog 163 #[.bool false, .int .u64 (m : Nat)] w fun e w' => e = .returned (.tuple #[.int .i64 (m : Int), .bool true]) /\ w' = w := by
  go_enter Tryz.func163, Tryz.ntmps163
  go_wp2
  go_ret2
  refine ⟨?_, rfl⟩
  show Ending.returned (.tuple #[.int .i64 (wrap64 (m : Int)), .bool true]) = _
  rw [e1]
theorem whole_po (m : Nat) (w : World) (h : decide ((9223372036854775808 : Int) <= (m : Int)) = true) :
    Calls Tryz.prog 163 #[.bool false, .int .u64 (m : Nat)] w fun e w' => e = .returned (.tuple #[.int .i64 0, .bool false]) /\ w' = w := by
  go_enter Tryz.func163, Tryz.ntmps163
  go_wp2
  go_ret2
  exact ⟨rfl, rfl⟩
theorem whole_at (neg : Bool) (m : Nat) (i : Int) (ok : Bool) (w : World) (hm : m < 18446744073709551616) (hi : wi neg m = i) (hk : wk neg m = ok) :
    Calls Tryz.prog 163 #[.bool neg, .int .u64 (m : Nat)] w fun e w' => e = .returned (.tuple #[.int .i64 i, .bool ok]) /\ w' = w := by
  subst hi hk
  unfold wi wk
  cases neg
  · simp only [Bool.false_eq_true, if_false]
    by_cases c : m < 9223372036854775808
    · rw [decide_eq_true c, if_pos rfl]; exact whole_p m w (decide_eq_false (by omega)) (by unfold wrap64; omega)
    · rw [decide_eq_false c, if_neg (by decide)]; exact whole_po m w (decide_eq_true (by omega))
  · simp only [if_true]
    by_cases c : m <= 9223372036854775808
    · rw [decide_eq_true c, if_pos rfl]
      refine whole_n m w (by omega) ?_
      unfold wrap64
      by_cases z : m = 0
      · subst z; decide
      · have : IntKind.u64.wrap (-(m : Int)) = 18446744073709551616 - (m : Int) := by
          simp [IntKind.wrap, IntKind.bits, IntKind.signed]; omega
        rw [this]; omega
    · rw [decide_eq_false c, if_neg (by decide)]; exact whole_no m w (by omega)
def gr (m e : Nat) : Bool := decide (m ≠ 0) && (decide (11 < e) || decide (9223372036854775808 / 2 ^ e < m))
theorem great_0 (e : Nat) (w : World) :
    Calls Tryz.prog 134 #[.int .u64 0, .int .i64 (e : Nat)] w fun e w' => e = .returned (.bool false) /\ w' = w := by
  go_enter Tryz.func134, Tryz.ntmps134
  go_wp2
  go_ret
  exact ⟨rfl, rfl⟩
theorem great_e (m e : Nat) (w : World) (h : ((m : Int) != 0) = true) (h1 : (11 : Int) < e) :
    Calls Tryz.prog 134 #[.int .u64 (m : Nat), .int .i64 (e : Nat)] w fun e w' => e = .returned (.bool true) /\ w' = w := by
  go_enter Tryz.func134, Tryz.ntmps134
  go_wp2
  go_ret
  exact ⟨rfl, rfl⟩
theorem great_m (m e : Nat) (b : Bool) (w : World) (h : ((m : Int) != 0) = true) (h1 : ¬ (11 : Int) < e) (h2 : decide ((9223372036854775808 : Int) / 2 ^ e < (m : Int)) = b) :
    Calls Tryz.prog 134 #[.int .u64 (m : Nat), .int .i64 (e : Nat)] w fun e w' => e = .returned (.bool b) /\ w' = w := by
  go_enter Tryz.func134, Tryz.ntmps134
  go_wp2
  go_ret
  exact ⟨rfl, rfl⟩
theorem great_at (m e : Nat) (b : Bool) (w : World) (hb : gr m e = b) :
    Calls Tryz.prog 134 #[.int .u64 (m : Nat), .int .i64 (e : Nat)] w fun e w' => e = .returned (.bool b) /\ w' = w := by
  subst hb
  unfold gr
  by_cases z : m = 0
  · subst z; exact great_0 e w
  · have h : ((m : Int) != 0) = true := by simp; omega
    rw [decide_eq_true z, Bool.true_and]
    by_cases c : 11 < e
    · rw [decide_eq_true c, Bool.true_or]; exact great_e m e w h (by omega)
    · rw [decide_eq_false c, Bool.false_or]
      refine great_m m e _ w h (by omega) (decide_eq_decide.2 ?_)
      have e1 : (9223372036854775808 : Int) / 2 ^ e = ((9223372036854775808 / 2 ^ e : Nat) : Int) := by
        rw [Int.natCast_ediv]; rfl
      rw [e1]; omega
theorem greatI (m : Nat) (e : Int) (b : Bool) (w : World) (he : 0 <= e) (hb : gr m e.toNat = b) :
    Calls Tryz.prog 134 #[.int .u64 (m : Nat), .int .i64 e] w fun e w' => e = .returned (.bool b) /\ w' = w := by
  obtain ⟨k, rfl⟩ : ∃ k : Nat, e = k := ⟨e.toNat, by omega⟩
  rw [Int.toNat_natCast] at hb
  exact great_at m k b w hb
theorem parts_at (x m : Nat) (e : Int) (n : Bool) (w : World) (hx : x < 18446744073709551616) (fx : mg x < 9218868437227405312) (hm : pm x = m) (he : pe x = e) (hn : ng x = n) :
    Calls Tryz.prog 132 #[.float .f64 x] w fun e' w' => e' = .returned (.tuple #[.bool n, .int .u64 (m : Nat), .int .i64 e, .int .i64 0]) /\ w' = w := by
  subst hm he hn; exact parts_fin x w hx fx
theorem parts_iat (x : Nat) (n : Bool) (w : World) (hx : x < 18446744073709551616) (fx : mg x = 9218868437227405312) (hn : ng x = n) :
    Calls Tryz.prog 132 #[.float .f64 x] w fun e w' => e = .returned (.tuple #[.bool n, .int .u64 0, .int .i64 0, .int .i64 1]) /\ w' = w := by
  subst hn; exact parts_i x w hx fx
theorem parts_nat (x : Nat) (n : Bool) (w : World) (hx : x < 18446744073709551616) (fx : isN x = true) (hn : ng x = n) :
    Calls Tryz.prog 132 #[.float .f64 x] w fun e w' => e = .returned (.tuple #[.bool n, .int .u64 0, .int .i64 0, .int .i64 2]) /\ w' = w := by
  subst hn; exact parts_n x w hx fx
theorem rr_inf (x : Nat) (n : Bool) (w : World) (hx : Hid (x < 18446744073709551616)) (hn : Hid (ng x = n)) (fx : Hid (mg x = 9218868437227405312)) :
    Calls Tryz.prog 140 #[.float .f64 x] w fun e w' => e = .returned (.tuple #[.int .i64 0, .bool false]) /\ w' = w := by
  go_enter Tryz.func140, Tryz.ntmps140
  go_wp2_with fail
  refine (parts_iat x n _ hx.out fx.out hn.out).mono ?_
  rintro e w' ⟨rfl, rfl⟩
  go_wp2
  go_ret2
  exact ⟨rfl, rfl⟩
theorem rr_nan (x : Nat) (n : Bool) (w : World) (hx : Hid (x < 18446744073709551616)) (hn : Hid (ng x = n)) (fx : Hid (isN x = true)) :
    Calls Tryz.prog 140 #[.float .f64 x] w fun e w' => e = .returned (.tuple #[.int .i64 0, .bool false]) /\ w' = w := by
  go_enter Tryz.func140, Tryz.ntmps140
  go_wp2_with fail
  refine (parts_nat x n _ hx.out fx.out hn.out).mono ?_
  rintro e w' ⟨rfl, rfl⟩
  go_wp2
  go_ret2
  exact ⟨rfl, rfl⟩
theorem rr_gr (x : Nat) (n : Bool) (w : World) (hx : Hid (x < 18446744073709551616)) (hn : Hid (ng x = n)) (fx : Hid (mg x < 9218868437227405312)) (m : Nat) (pm' : Hid (pm x = m)) (e : Int) (e0 : 0 <= e) (pe' : Hid (pe x = e)) (g : Hid (gr m e.toNat = true)) :
    Calls Tryz.prog 140 #[.float .f64 x] w fun e w' => e = .returned (.tuple #[.int .i64 0, .bool false]) /\ w' = w := by
  go_enter Tryz.func140, Tryz.ntmps140
  go_wp2_with fail
  refine (parts_at x m e n _ hx.out fx.out pm'.out pe'.out hn.out).mono ?_
  rintro e w' ⟨rfl, rfl⟩
  go_wp2_with fail
  refine (greatI m e true _ e0 g.out).mono ?_
  rintro e w' ⟨rfl, rfl⟩
  go_wp2
  go_ret2
  exact ⟨rfl, rfl⟩
theorem rr_up (x : Nat) (n : Bool) (w : World) (hx : Hid (x < 18446744073709551616)) (hn : Hid (ng x = n)) (fx : Hid (mg x < 9218868437227405312)) (m : Nat) (pm' : Hid (pm x = m)) (e : Int) (e0 : 0 <= e) (e1 : e < 12) (pe' : Hid (pe x = e)) (g : Hid (gr m e.toNat = false)) (p : Nat) (hp : IntKind.u64.wrap ((m : Int) * 2 ^ e.toNat) = (p : Int)) (lp : Hid (p < 18446744073709551616)) (i : Int) (ok : Bool) (hi : Hid (wi n p = i)) (hk : Hid (wk n p = ok)) :
    Calls Tryz.prog 140 #[.float .f64 x] w fun e w' => e = .returned (.tuple #[.int .i64 i, .bool ok]) /\ w' = w := by
  go_enter Tryz.func140, Tryz.ntmps140
  go_wp2_with fail
  refine (parts_at x m e n _ hx.out fx.out pm'.out pe'.out hn.out).mono ?_
  rintro e w' ⟨rfl, rfl⟩
  go_wp2_with fail
  refine (greatI m e false _ e0 g.out).mono ?_
  rintro e w' ⟨rfl, rfl⟩
  go_wp2_with fail
  refine (whole_at n p i ok _ lp.out hi.out hk.out).mono ?_
  rintro e w' ⟨rfl, rfl⟩
  go_wp2
  go_ret2
  exact ⟨rfl, rfl⟩
theorem rr_dn (x : Nat) (n : Bool) (w : World) (hx : Hid (x < 18446744073709551616)) (hn : Hid (ng x = n)) (fx : Hid (mg x < 9218868437227405312)) (m : Nat) (pm' : Hid (pm x = m)) (k : Nat) (lm : Hid (okm m k)) (k1 : 1 <= k) (e : Int) (e1 : -5000 < e) (ek : -e = (k : Int)) (pe' : Hid (pe x = e)) (r : Nat) (hr : Hid (rne m (2 ^ k) = r)) (lr : Hid (r < 18446744073709551616)) (i : Int) (ok : Bool) (hi : Hid (wi n r = i)) (hk : Hid (wk n r = ok)) :
    Calls Tryz.prog 140 #[.float .f64 x] w fun e w' => e = .returned (.tuple #[.int .i64 i, .bool ok]) /\ w' = w := by
  go_enter Tryz.func140, Tryz.ntmps140
  go_wp2_with fail
  refine (parts_at x m e n _ hx.out fx.out pm'.out pe'.out hn.out).mono ?_
  rintro e w' ⟨rfl, rfl⟩
  go_wp2_with fail
  refine (near_at m k r _ lm.out k1 hr.out).mono ?_
  rintro e w' ⟨rfl, rfl⟩
  go_wp2_with fail
  refine (whole_at n r i ok _ lr.out hi.out hk.out).mono ?_
  rintro e w' ⟨rfl, rfl⟩
  go_wp2
  go_ret2
  exact ⟨rfl, rfl⟩
end Go.Proofs.YtdigecacmibkpaaGreatDoor.Ref2
