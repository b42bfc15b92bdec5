/-
  A unit's parts, and what a length is, by plain numbers (no program).
-/
import Derived.Test.YtgbaaafikphafaaNw
namespace Go.Proofs.Ytgbaaafikphafaa
open Tf Ieee
theorem mv_ONE : mv 4607182418800017408 = 2 ^ K := one_pow
theorem wd_word (s : Bool) (r : Nat) : double.word s r = wd s r := d_word s r
/-- the nearest word to no more than 1 -/
theorem near_one {s : Bool} {W e : Nat} {p : Int} (hp : p = -(e : Int)) (hW : W ≤ 2 ^ e) : ∃ r, r ≤ 4607182418800017408 ∧ double.nearest s W p = wd s r := by
  have hlp := lp_K
  have hfb : double.fractionBits = 52 := rfl
  by_cases c : e ≤ K
  · obtain ⟨d, hd⟩ : ∃ d, e + d = K := ⟨K - e, by omega⟩
    have e1 := nearest_up double s W d p (by rw [hlp, hp]; omega)
    rw [hfb, d_inf, wd_word] at e1
    have h1 : rung 52 0 (W * 2 ^ d) ≤ 4607182418800017408 := rung_le2 (by
      rw [mv_ONE, Nat.pow_zero, Nat.mul_one, ← hd, Nat.pow_add]
      exact Nat.mul_le_mul_right _ hW)
    exact ⟨min (rung 52 0 (W * 2 ^ d)) 9218868437227405312, Nat.le_trans (Nat.min_le_left _ _) h1, e1⟩
  · obtain ⟨d, hd⟩ : ∃ d, K + d = e := ⟨e - K, by omega⟩
    have e1 := nearest_rung double s W d
    rw [hfb, d_inf, wd_word] at e1
    have h1 : rung 52 d W ≤ 4607182418800017408 := rung_le2 (by
      rw [mv_ONE, ← Nat.pow_add, hd]
      exact hW)
    have e2 : p = double.leastPlace - (d : Int) := by rw [hlp, hp]; omega
    rw [← e2] at e1
    exact ⟨min (rung 52 d W) 9218868437227405312, Nat.le_trans (Nat.min_le_left _ _) h1, e1⟩
theorem quo_le {m n a b : Nat} (m1 : 4503599627370496 ≤ m) (m2 : m < 9007199254740992) (n1 : 4503599627370496 ≤ n) (hab : a < b ∨ (a = b ∧ m ≤ n)) :
    2 * (m <<< 54 / n) + (m <<< 54 % n != 0).toNat ≤ 2 ^ (55 + (b - a)) := by
  have hs : m <<< 54 = m * 18014398509481984 := by rw [Nat.shiftLeft_eq]
  have hdm := Nat.div_add_mod (m <<< 54) n
  have hml := Nat.mod_lt (m <<< 54) (show n > 0 by omega)
  have hc : (m <<< 54 % n != 0).toNat ≤ 1 := by cases (m <<< 54 % n != 0) <;> decide
  have hz : m <<< 54 % n = 0 → (m <<< 54 % n != 0).toNat = 0 := by intro h; rw [h]; rfl
  rw [hs] at *
  generalize (m * 18014398509481984 % n != 0).toNat = c at *
  generalize m * 18014398509481984 % n = r at *
  generalize m * 18014398509481984 / n = q at *
  have e55 : (2 : Nat) ^ 55 = 36028797018963968 := by decide
  have e56 : (2 : Nat) ^ 56 = 72057594037927936 := by decide
  rcases hab with h | ⟨h, hmn⟩
  · have hp : 2 ^ 56 ≤ 2 ^ (55 + (b - a)) := Nat.pow_le_pow_right (by omega) (by omega)
    have hq : q < 36028797018963968 := by
      rcases Nat.lt_or_ge q 36028797018963968 with k | k
      · exact k
      · exfalso
        have := Nat.mul_le_mul n1 k
        have h2 : n * 36028797018963968 ≤ n * q := Nat.mul_le_mul_left _ k
        omega
    omega
  · subst h
    rw [Nat.sub_self, Nat.add_zero, e55]
    rcases Nat.lt_or_ge q 18014398509481984 with k | k
    · omega
    · have h2 : n * 18014398509481984 ≤ n * q := Nat.mul_le_mul_left _ k
      rcases Nat.lt_or_ge 18014398509481984 q with k2 | k2
      · exfalso
        have h3 : n * 18014398509481985 ≤ n * q := Nat.mul_le_mul_left _ k2
        omega
      · have hq : q = 18014398509481984 := by omega
        rw [hq] at hdm
        have hr : r = 0 := by omega
        have h4 := hz hr
        omega
/-- a part over a length that is no less -/
theorem dv_one {x l : Nat} (hx : x < 18446744073709551616) (l1 : 4503599627370496 ≤ l) (l2 : l < 9218868437227405312) (hxl : mg x ≤ l) (hx0 : mg x = 0 ∨ 4503599627370496 ≤ mg x) :
    ∃ r, r ≤ 4607182418800017408 ∧ (dvB x l = 0 ∨ dvB x l = wd (ng x) r) ∧ (mg x = 0 → dvB x l = 0) := by
  have ml : mg l = l := mg_of_lt (by omega)
  have nl : ng l = false := ng_of_lt (by omega)
  have el := read_norm (x := l) (by omega) (by omega)
  rw [ml, sgn_ng (by omega), nl] at el
  have hn : 4503599627370496 + l % 4503599627370496 ≠ 0 := by omega
  rcases hx0 with h0 | h0
  · have hz : dvB x l = 0 := by
      have e1 : double.div x l = some (wd (ng x) 0) := by
        show ((double.read x).quotient 54 (double.read l)).map double.write = _
        rw [read_zero h0, el, sgn_ng hx]
        generalize 4503599627370496 + l % 4503599627370496 = n at *
        unfold Datum.quotient
        dsimp only
        rw [if_neg hn]
        simp only [Option.map_some, Format.write, Format.nearest, Nat.zero_shiftLeft, Nat.zero_div, Nat.zero_mod, Nat.mul_zero, Bool.xor_false]
        rw [wd_word]
        rfl
      rw [dvB_some e1]
      unfold canonB
      rw [wd_mg (by omega)]
      rw [if_neg (by unfold isN; rw [wd_mg (by omega)]; decide), if_pos rfl]
    exact ⟨0, by omega, .inl hz, fun _ => hz⟩
  · have ex := read_norm (x := x) h0 (by omega)
    rw [sgn_ng hx] at ex
    have lx : (4503599627370496 + mg x % 4503599627370496).log2 = 52 := log_m _ (Nat.mod_lt _ (by omega))
    have ll : (4503599627370496 + l % 4503599627370496).log2 = 52 := log_m _ (Nat.mod_lt _ (by omega))
    have hq := quo_le (m := 4503599627370496 + mg x % 4503599627370496) (n := 4503599627370496 + l % 4503599627370496) (a := mg x / 4503599627370496 - 1) (b := l / 4503599627370496 - 1) (by omega) (by have := Nat.mod_lt (mg x) (show 4503599627370496 > 0 by omega); omega) (by omega) (by omega)
    have hab : mg x / 4503599627370496 - 1 ≤ l / 4503599627370496 - 1 := by
      have := Nat.div_le_div_right (c := 4503599627370496) hxl
      omega
    have e1 : double.div x l = some (double.nearest (ng x) (2 * ((4503599627370496 + mg x % 4503599627370496) <<< 54 / (4503599627370496 + l % 4503599627370496)) + ((4503599627370496 + mg x % 4503599627370496) <<< 54 % (4503599627370496 + l % 4503599627370496) != 0).toNat) (double.leastPlace + ((mg x / 4503599627370496 - 1 : Nat) : Int) - (double.leastPlace + ((l / 4503599627370496 - 1 : Nat) : Int)) - (54 : Nat) - 1)) := by
      show ((double.read x).quotient 54 (double.read l)).map double.write = _
      rw [ex, el]
      unfold Datum.quotient
      dsimp only
      rw [if_neg hn, lx, ll]
      simp only [Bool.xor_false]
      rfl
    generalize mg x / 4503599627370496 - 1 = a at *
    generalize l / 4503599627370496 - 1 = b at *
    obtain ⟨r, r1, r2⟩ := near_one (s := ng x) (e := 55 + (b - a)) (p := double.leastPlace + (a : Int) - (double.leastPlace + (b : Int)) - (54 : Nat) - 1) (by omega) hq
    rw [r2] at e1
    refine ⟨r, r1, ?_, fun h => by omega⟩
    rw [dvB_some e1]
    unfold canonB
    rw [wd_mg (by omega), if_neg (by unfold isN; rw [wd_mg (by omega)]; simp; omega)]
    by_cases c : r = 0
    · rw [if_pos c]; exact .inl rfl
    · rw [if_neg c]; exact .inr rfl
/-- what is asked of a unit's part -/
theorem part_ok {u x r : Nat} (hx : x < 18446744073709551616) (nx : isN x = false) (hr : r ≤ 4607182418800017408) (h : u = 0 ∨ u = wd (ng x) r) (h0 : mg x = 0 → u = 0) :
    (fgt u 13830554455654793216 || feq u 13830554455654793216) = true ∧ (flt u 4607182418800017408 || feq u 4607182418800017408) = true ∧ ((flt u 0 || feq u 0) = true ∨ fgt x 0 = true) ∧ ((fgt u 0 || feq u 0) = true ∨ flt x 0 = true) := by
  have hu : u < 18446744073709551616 := by
    rcases h with h | h
    · omega
    · rw [h]; unfold wd; split <;> omega
  have hk : isN u = false ∧ -4607182418800017408 ≤ rk u ∧ rk u ≤ 4607182418800017408 ∧ (rk u ≤ 0 ∨ (ng x = false ∧ mg x ≠ 0)) ∧ (0 ≤ rk u ∨ (ng x = true ∧ mg x ≠ 0)) := by
    by_cases c : u = 0
    · subst c
      exact ⟨by decide, by decide, by decide, .inl (by decide), .inl (by decide)⟩
    · have hw := h.resolve_left c
      have hm : mg x ≠ 0 := fun e => c (h0 e)
      have hmu : mg u = r := by rw [hw]; exact wd_mg (by omega)
      have hN : isN u = false := by rw [isN_false, hmu]; omega
      have hng : ng u = ng x := by
        rw [hw]
        unfold wd
        cases ng x
        · exact ng_of_lt (by simp; omega)
        · exact ng_of_ge (by simp)
      unfold rk
      rw [hng, hmu]
      refine ⟨hN, ?_⟩
      cases k : ng x
      · simp; omega
      · simp; omega
  obtain ⟨hN, k1, k2, k3, k4⟩ := hk
  rw [fgt_rk u _ hu (by decide), feq_rk u _ hu (by decide), flt_rk u _ hu (by decide), feq_rk u 4607182418800017408 hu (by decide), flt_rk u 0 hu (by decide), feq_rk u 0 hu (by decide), fgt_rk u 0 hu (by decide), fgt_rk x 0 hx (by decide), flt_rk x 0 hx (by decide), hN, nx]
  rw [show rk 13830554455654793216 = -4607182418800017408 by decide, show rk 4607182418800017408 = 4607182418800017408 by decide, show rk 0 = 0 by decide, show isN 13830554455654793216 = false by decide, show isN 4607182418800017408 = false by decide, show isN 0 = false by decide]
  have ex : (ng x = false → rk x = mg x) ∧ (ng x = true → rk x = -(mg x : Int)) := by
    unfold rk
    exact ⟨fun h => by rw [h]; rfl, fun h => by rw [h]; rfl⟩
  simp
  refine ⟨by omega, by omega, ?_, ?_⟩
  · rcases k3 with k | ⟨k, k'⟩
    · left; omega
    · right; rw [ex.1 k]; omega
  · rcases k4 with k | ⟨k, k'⟩
    · left; omega
    · right; rw [ex.2 k]; omega
end Go.Proofs.Ytgbaaafikphafaa
