/-
  Doubles as floats of 16 bits and back, by plain numbers; a quotient by a power of two (no program).
-/
import Derived.Test.YtpncpbpdbdlamaaPw
namespace Go.Proofs.Ytpncpbpdbdlamaa
open Tf

theorem read_bound (f : Ieee.Format) (x : Nat) (h : rg f x < f.infRung) : ∃ m a : Nat, f.read x = .number (sg f x) m (f.leastPlace + a) ∧ m * 2 ^ a = mag f.fractionBits (rg f x) ∧ m < 2 * 2 ^ f.fractionBits := by
  have hp := pow_pos f.fractionBits
  unfold Ieee.Format.read
  simp only []
  unfold mag
  by_cases c : rg f x < f.binade
  · refine ⟨rg f x, 0, ?_, ?_, ?_⟩
    · rw [if_pos (show x % f.signWeight < f.binade from c)]; simp [sg, rg]
    · rw [if_pos (show rg f x < 2 ^ f.fractionBits from c)]; omega
    · have : rg f x < 2 ^ f.fractionBits := c
      omega
  · refine ⟨f.binade + rg f x % f.binade, rg f x / f.binade - 1, ?_, ?_, ?_⟩
    · rw [if_neg (show ¬ x % f.signWeight < f.binade from c), if_pos (show x % f.signWeight < f.infRung from h)]; rfl
    · rw [if_neg (show ¬ rg f x < 2 ^ f.fractionBits from c)]; rfl
    · have : rg f x % f.binade < 2 ^ f.fractionBits := Nat.mod_lt _ hp
      have e : f.binade = 2 ^ f.fractionBits := rfl
      omega

/-- a quotient by a power of two that is exact -/
theorem div_exact (x e r : Nat) (hx : x < 18446744073709551616) (fx : mg x < 9218868437227405312) (he : (e + 1) * 4503599627370496 < 9218868437227405312) (hr : r ≤ 9218868437227405312) (E : mv r * 2 ^ (52 + e) = mv (mg x) * one) :
    Ieee.double.div x ((e + 1) * 4503599627370496) = some (if ng x then 9223372036854775808 + r else r) := by
  have ei := d_inf
  have eb := d_bin
  obtain ⟨m, a, e1, v, hm⟩ := read_bound Ieee.double x (by rw [rg_d]; omega)
  rw [d_fb, rg_d] at v
  rw [d_fb] at hm
  have e2 : Ieee.double.read ((e + 1) * 4503599627370496) = .number false 4503599627370496 (Ieee.double.leastPlace + e) := by
    unfold Ieee.Format.read
    simp only []
    rw [d_sw, eb, ei]
    have h1 : (e + 1) * 4503599627370496 / 9223372036854775808 = 0 := by omega
    have h2 : (e + 1) * 4503599627370496 % 9223372036854775808 = (e + 1) * 4503599627370496 := by omega
    rw [h1, h2, if_neg (by omega), if_pos he]
    have h3 : (e + 1) * 4503599627370496 % 4503599627370496 = 0 := by omega
    have h4 : (e + 1) * 4503599627370496 / 4503599627370496 - 1 = e := by omega
    rw [h3, h4]; rfl
  unfold Ieee.Format.div
  rw [e1, e2]
  simp only [Ieee.Datum.quotient, shl]
  rw [if_neg (by decide)]
  simp only [Option.map, Ieee.Format.write, Bool.xor_false]
  have hlog : Nat.log2 4503599627370496 = 52 := by decide
  rw [hlog, d_fb]
  have hml : m.log2 ≤ 52 := log2_small (show m < 2 ^ (52 + 1) by omega)
  obtain ⟨c, hc⟩ : ∃ c, 52 + 2 + 52 - m.log2 = 52 + c ∧ 2 ≤ c := ⟨54 - m.log2, by omega, by omega⟩
  rw [hc.1]
  have hd : m * 2 ^ (52 + c) = m * 2 ^ c * 4503599627370496 := by
    rw [Nat.add_comm, Nat.pow_add, Nat.mul_assoc]
  rw [hd, Nat.mul_mod_left, Nat.mul_div_cancel _ (by decide)]
  have hz : (0 != 0 : Bool).toNat = 0 := by decide
  rw [hz, Nat.add_zero]
  have h2 : 2 * (m * 2 ^ c) = m * 2 ^ (c + 1) := by rw [Nat.pow_succ]; simp only [Nat.mul_comm, Nat.mul_left_comm]
  rw [h2, nearest_scale]
  have hp : Ieee.double.leastPlace + (a : Int) - (Ieee.double.leastPlace + (e : Int)) - ((52 + c : Nat) : Int) - 1 + ((c + 1 : Nat) : Int) = (Ieee.double.leastPlace - ((52 + e : Nat) : Int)) + ((a + K : Nat) : Int) := by
    rw [lp_K]; omega
  rw [hp, ← nearest_scale, nearest_rung, d_fb, d_inf, d_word, sg_d x hx]
  have hv : m * 2 ^ (a + K) = mag 52 r * 2 ^ (52 + e) := by
    show _ = mv r * _
    rw [E, one_pow, Nat.pow_add, ← Nat.mul_assoc, v]; rfl
  rw [hv, rung_mag 52 (52 + e) r (by omega), Nat.min_eq_left hr]

/-- the places between the least of 16 bits and the least of 64 -/
def H2 : Nat := 1050
theorem H2_eq : H2 = 1050 := rfl
def t16 (x : Nat) : Nat := min (rung 10 H2 (mv (mg x))) 31744
def D16 (r : Nat) : Nat := rung 52 0 (mag 10 r * 2 ^ H2)
theorem mv_D16 (r : Nat) : mv (D16 r) = mag 10 r * 2 ^ H2 := by
  obtain ⟨R, e⟩ := mag_double 10 H2 r (by omega)
  unfold D16
  rw [← e, rung_mv]
theorem D16_inf : mag 10 31744 * 2 ^ H2 = mv 4679240012837945344 := by
  have := mag_top 10 30 H2 16 4679240012837945344 (by rw [K_eq, H2_eq]) (mv_from_one 16 _ (by decide))
  rwa [show (30 + 1) * 2 ^ 10 = 31744 from by decide] at this
theorem D16_lt (r : Nat) (h : r < 31744) : D16 r < 4679240012837945344 := by
  rw [← mv_lt, mv_D16, ← D16_inf]
  exact (Nat.mul_lt_mul_right (pow_pos H2)).2 (mag_lt.2 h)
theorem t16_inf (x : Nat) (fx : 4679240012837945344 ≤ mg x) : t16 x = 31744 := by
  have h : mag 10 31744 * 2 ^ H2 ≤ mv (mg x) := by rw [D16_inf]; exact mv_le.2 fx
  have := rung_ge (p := 10) (d := H2) (by omega) h
  unfold t16; omega

def to16B (x : Nat) : Nat := if isN x then 32256 else if ng x then 32768 + t16 x else t16 x
def ng16 (b : Nat) : Bool := decide (32768 ≤ b)
def from16B (b : Nat) : Nat :=
  if 31744 < b % 32768 then quiet else
  let m := if b % 32768 = 31744 then 9218868437227405312 else D16 (b % 32768)
  if ng16 b then 9223372036854775808 + m else m
theorem to16B_lt (x : Nat) : to16B x < 65536 := by
  unfold to16B t16
  generalize rung 10 H2 (mv (mg x)) = r
  repeat' split
  all_goals omega
theorem from16B_lt (b : Nat) : from16B b < 18446744073709551616 := by
  unfold from16B
  have hq := quiet_lt
  by_cases c : 31744 < b % 32768
  · rw [if_pos c]; exact hq
  · rw [if_neg c]
    by_cases c2 : b % 32768 = 31744
    · simp only [if_pos c2]; split <;> omega
    · have := D16_lt (b % 32768) (by omega)
      simp only [if_neg c2]
      generalize D16 (b % 32768) = y at *
      split <;> omega
theorem back16 (b : Nat) (hb : b < 65536) (h : b % 32768 ≤ 31744) : to16B (from16B b) = b := by
  have hw : b = if ng16 b then 32768 + b % 32768 else b % 32768 := by
    unfold ng16
    by_cases c : 32768 ≤ b
    · rw [decide_eq_true c, if_pos rfl]; omega
    · rw [decide_eq_false c, if_neg (by decide)]; omega
  have key : ∀ m, m ≤ 9218868437227405312 → min (rung 10 H2 (mv m)) 31744 = b % 32768 → to16B (if ng16 b then 9223372036854775808 + m else m) = b := by
    intro m hm e
    have h1 : mg (if ng16 b then 9223372036854775808 + m else m) = m := by
      unfold mg; cases ng16 b <;> simp <;> omega
    have h2 : ng (if ng16 b then 9223372036854775808 + m else m) = ng16 b := by
      cases ng16 b
      · simp only [Bool.false_eq_true, if_false]; exact ng_of_lt (by omega)
      · simp only [if_true]; exact ng_of_ge (by omega)
    have h3 : isN (if ng16 b then 9223372036854775808 + m else m) = false := isN_false.2 (by rw [h1]; exact hm)
    unfold to16B t16
    rw [h3, h1, h2, e, if_neg (by decide)]
    exact hw.symm
  unfold from16B
  rw [if_neg (by omega)]
  by_cases c : b % 32768 = 31744
  · simp only [if_pos c]
    refine key _ (by omega) ?_
    have := t16_inf 9218868437227405312 (by decide)
    unfold t16 at this
    rw [c]; exact this
  · simp only [if_neg c]
    have hl := D16_lt (b % 32768) (by omega)
    refine key _ (by omega) ?_
    rw [mv_D16, rung_mag 10 H2 _ (by omega)]; omega

/-! how the code makes the bits of 16 -/
theorem mv_add_binade (r : Nat) (h : 4503599627370496 ≤ r) : mv (r + 4503599627370496) = 2 * mv r := by
  have hp : (2 : Nat) ^ 52 = 4503599627370496 := by decide
  unfold mv mag
  rw [hp, if_neg (by omega), if_neg (by omega)]
  have h1 : (r + 4503599627370496) % 4503599627370496 = r % 4503599627370496 := by omega
  have h2 : (r + 4503599627370496) / 4503599627370496 - 1 = (r / 4503599627370496 - 1) + 1 := by omega
  rw [h1, h2, Nat.pow_succ]
  simp only [Nat.mul_comm, Nat.mul_left_comm]
theorem mv_half : 2 * mv 4602678819172646912 = one := by
  have := mv_add_binade 4602678819172646912 (by decide)
  exact this.symm
theorem mv_c24 : mv 4715268809856909312 = 2 ^ 24 * one := mv_from_one 24 _ (by decide)

/-- the magnitude in steps of the first band: exact, or too great -/
theorem times24 (m : Nat) (hm : m < 9218868437227405312) : ∃ s, s ≤ 9218868437227405312 ∧ Ieee.double.mul m 4715268809856909312 = some s ∧ (s < 9218868437227405312 → mv s = mv m * 2 ^ 24) ∧ (s = 9218868437227405312 → mv 9218868437227405312 ≤ mv m * 2 ^ 24) := by
  have e1 : mg m = m := mg_of_lt (by omega)
  obtain ⟨A, k, hA, e⟩ := mag_form 52 m
  obtain ⟨R, hR⟩ := rep 52 A (k + 24) hA
  have hR' : mv R = mv m * 2 ^ 24 := by
    show mag 52 R = mag 52 m * 2 ^ 24
    rw [hR, e, Nat.mul_assoc, ← Nat.pow_add]
  have hmul : Ieee.double.mul m 4715268809856909312 = some (min R 9218868437227405312) := by
    rw [mul_d m _ (by omega) (by decide) (by omega) (by decide), e1, ng_of_lt (show m < 9223372036854775808 by omega)]
    have e2 : mg 4715268809856909312 = 4715268809856909312 := by decide
    have e3 : ng 4715268809856909312 = false := by decide
    rw [e2, e3, mv_c24]
    have : mv m * (2 ^ 24 * one) = mag 52 R * 2 ^ K := by
      show _ = mv R * _
      rw [hR', one_pow, Nat.mul_assoc]
    rw [this]
    have hK : (1074 : Nat) = K := rfl
    rw [hK, rung_mag 52 K R (by omega)]
    rfl
  refine ⟨min R 9218868437227405312, by omega, hmul, fun h => ?_, fun h => ?_⟩
  · rw [Nat.min_eq_left (by omega)]; exact hR'
  · rw [← hR']; exact mv_le.2 (by omega)
/-- a half of what is at least 1 -/
theorem halved (s : Nat) (h : 4607182418800017408 ≤ s) (h' : s < 9218868437227405312) : Ieee.double.mul s 4602678819172646912 = some (s - 4503599627370496) := by
  have e1 : mg s = s := mg_of_lt (by omega)
  have := mul_exact s 4602678819172646912 (s - 4503599627370496) (by omega) (by omega) (by decide) (by omega) ?_
  · rw [ng_of_lt (show s < 9223372036854775808 by omega), if_neg (by decide)] at this; exact this
  · have hb := mv_add_binade (s - 4503599627370496) (by omega)
    rw [show s - 4503599627370496 + 4503599627370496 = s by omega] at hb
    rw [e1, hb, ← mv_half, Nat.mul_comm 2 (mv (s - 4503599627370496)), Nat.mul_assoc]
theorem inf_times (y : Nat) (hy : y < 9218868437227405312) (h0 : 0 < y) : Ieee.double.mul 9218868437227405312 y = some 9218868437227405312 := by
  have ei := d_inf
  have e1 : mg y = y := mg_of_lt (by omega)
  obtain ⟨m, a, e, v⟩ := read_fin Ieee.double y (by rw [rg_d]; omega)
  have hm : m ≠ 0 := by
    intro h; subst h
    rw [Nat.zero_mul, d_fb, rg_d, e1] at v
    have := (@mv_lt 0 y).2 h0
    rw [mv_zero] at this
    unfold mv at this; omega
  have e2 : sg Ieee.double 9218868437227405312 = false := by rw [sg_d _ (by decide)]; decide
  have e3 : sg Ieee.double y = false := by rw [sg_d _ (by omega)]; exact ng_of_lt (by omega)
  unfold Ieee.Format.mul
  rw [read_inf Ieee.double 9218868437227405312 d_he (by rw [rg_d]; decide), e, e2, e3]
  simp only [Ieee.Datum.product, if_neg hm, Option.map, Ieee.Format.write, Bool.xor_false]
  rw [d_word, d_inf, if_neg (by decide)]

/-- the band, and the bits -/
theorem band_bits (V s n : Nat) (hs : mv s = V * 2 ^ 24) (h1 : s < (1034 + n) * 4503599627370496) (h2 : n = 0 ∨ (1033 + n) * 4503599627370496 ≤ s) :
    mv (s - n * 4503599627370496) * 2 ^ n = mv s ∧ n * 1024 + rne (mv (s - n * 4503599627370496)) one = rung 10 H2 V := by
  have hK := K_eq
  have hH := H2_eq
  have hp52 : (2 : Nat) ^ 52 = 4503599627370496 := by decide
  have key : ∀ j, j ≤ n → mv (s - j * 4503599627370496) * 2 ^ j = mv s := by
    intro j
    induction j with
    | zero => intro _; simp
    | succ j ih =>
      intro hj
      have := ih (by omega)
      have hb := mv_add_binade (s - (j + 1) * 4503599627370496) (by omega)
      rw [show s - (j + 1) * 4503599627370496 + 4503599627370496 = s - j * 4503599627370496 by omega] at hb
      rw [hb] at this
      rw [Nat.pow_succ, ← this]
      simp only [Nat.mul_comm, Nat.mul_left_comm, Nat.mul_assoc]
  have hk := key n (Nat.le_refl _)
  refine ⟨hk, ?_⟩
  have hlog : V.log2 - (10 + H2) = n := by
    have up : V < 2 ^ (10 + H2 + n + 1) := by
      have e := mv_from_one (11 + n) ((1034 + n) * 4503599627370496) (by rw [hp52]; omega)
      have : mv s < mv ((1034 + n) * 4503599627370496) := mv_lt.2 h1
      rw [hs, e, one_pow] at this
      have e2 : 2 ^ (11 + n) * 2 ^ K = 2 ^ (10 + H2 + n + 1) * 2 ^ 24 := by
        rw [← Nat.pow_add, ← Nat.pow_add]; congr 1; omega
      rw [e2] at this
      exact (Nat.mul_lt_mul_right (pow_pos 24)).1 this
    have hup := log2_small (k := 10 + H2 + n) up
    rcases h2 with h2 | h2
    · clear up
      omega
    · have lo : 2 ^ (10 + H2 + n) ≤ V := by
        have e := mv_from_one (10 + n) ((1033 + n) * 4503599627370496) (by rw [hp52]; omega)
        have : mv ((1033 + n) * 4503599627370496) ≤ mv s := mv_le.2 h2
        rw [hs, e, one_pow] at this
        have e2 : 2 ^ (10 + n) * 2 ^ K = 2 ^ (10 + H2 + n) * 2 ^ 24 := by
          rw [← Nat.pow_add, ← Nat.pow_add]; congr 1; omega
        rw [e2] at this
        exact Nat.le_of_mul_le_mul_right this (pow_pos 24)
      have := log2_of lo up
      clear lo up
      omega
  unfold rung
  rw [hlog]
  have e3 : rne (mv (s - n * 4503599627370496)) one = rne V (2 ^ (n + H2)) := by
    have a1 := rne_scale (mv (s - n * 4503599627370496)) one (2 ^ n) (pow_pos n)
    have a2 := rne_scale V (2 ^ (n + H2)) (2 ^ 24) (pow_pos 24)
    rw [hk, hs] at a1
    have e4 : one * 2 ^ n = 2 ^ (n + H2) * 2 ^ 24 := by
      have h5 : K + n = n + H2 + 24 := by omega
      rw [one_pow, ← Nat.pow_add, ← Nat.pow_add, h5]
    rw [e4] at a1
    rw [← a1, a2]
  rw [e3]
theorem past_bits (V s : Nat) (hs : mv s ≤ V * 2 ^ 24) (h : 4787326403894837248 ≤ s) : 31744 ≤ rung 10 H2 V := by
  refine rung_ge (by omega) ?_
  rw [D16_inf, mv_from_one 16 _ (by decide)]
  have e := mv_from_one 40 4787326403894837248 (by decide)
  have h3 := (@mv_le 4787326403894837248 s).2 h
  rw [e] at h3
  generalize one = O at *
  generalize mv s = ms at *
  clear e h
  omega

end Go.Proofs.Ytpncpbpdbdlamaa
