/-
  Some of the texts of this proof, one behind the other.
-/
import Derived.Test.YtjgbaenihkplpaaDoorZ10
import Derived.Test.YtjgbaenihkplpaaDoorZ13
/-
  Doubles as floats of 32 bits and back, by plain numbers (no program).
-/
namespace Go.Proofs.YtjgbaenihkplpaaDoor
open Tf

theorem s_sw : Ieee.single.signWeight = 2147483648 := by decide
theorem s_inf : Ieee.single.infRung = 2139095040 := by decide
theorem s_he : Ieee.single.binade ≤ Ieee.single.infRung := by decide
theorem s_fb : Ieee.single.fractionBits = 23 := rfl
theorem s_word (neg : Bool) (r : Nat) : Ieee.single.word neg r = if neg then 2147483648 + r else r := by
  unfold Ieee.Format.word; rw [s_sw]
/-- the places between the least of 32 bits and the least of 64 -/
def K2 : Nat := 925
theorem K2_eq : K2 = 925 := rfl
theorem s_lp : Ieee.single.leastPlace = -(K : Int) + (K2 : Int) := by rw [K_eq, K2_eq]; decide

def mg32 (b : Nat) : Nat := b % 2147483648
def ng32 (b : Nat) : Bool := decide (2147483648 ≤ b)
theorem rg_s (b : Nat) : rg Ieee.single b = mg32 b := by unfold rg mg32; rw [s_sw]
theorem sg_s (b : Nat) (hb : b < 4294967296) : sg Ieee.single b = ng32 b := by
  unfold sg ng32; rw [s_sw]
  by_cases h : 2147483648 ≤ b
  · have : b / 2147483648 = 1 := by omega
    rw [this]; simp [h]
  · have : b / 2147483648 = 0 := by omega
    rw [this]; simp [h]

/-- a magnitude is a number of few bits times a power of two -/
theorem mag_form (p r : Nat) : ∃ A k, A ≤ 2 ^ (p + 1) ∧ mag p r = A * 2 ^ k := by
  have hp := pow_pos p
  have hp1 : 2 ^ (p + 1) = 2 * 2 ^ p := by rw [Nat.pow_succ]; omega
  unfold mag
  by_cases h : r < 2 ^ p
  · exact ⟨r, 0, by omega, by rw [if_pos h]; omega⟩
  · refine ⟨2 ^ p + r % 2 ^ p, r / 2 ^ p - 1, ?_, by rw [if_neg h]⟩
    have := Nat.mod_lt r hp
    omega
theorem mag_double (p c r : Nat) (hp : p ≤ 52) : ∃ R, mv R = mag p r * 2 ^ c := by
  obtain ⟨A, k, hA, e⟩ := mag_form p r
  have h1 : 2 ^ (p + 1) ≤ 2 ^ (52 + 1) := Nat.pow_le_pow_right (by omega) (by omega)
  obtain ⟨R, hR⟩ := rep 52 A (k + c) (by omega)
  exact ⟨R, by rw [e, Nat.mul_assoc, ← Nat.pow_add]; exact hR⟩
theorem mag_binade (p e : Nat) : mag p ((e + 1) * 2 ^ p) = 2 ^ (p + e) := by
  have hp := pow_pos p
  have : 1 * 2 ^ p ≤ (e + 1) * 2 ^ p := Nat.mul_le_mul_right _ (by omega)
  unfold mag
  rw [if_neg (by omega), Nat.mul_mod_left, Nat.mul_div_cancel _ hp, Nat.add_zero, ← Nat.pow_add]
  rfl

/-- the double that a magnitude of 32 bits is -/
def D32 (r : Nat) : Nat := rung 52 0 (mag 23 r * 2 ^ K2)
theorem mv_D32 (r : Nat) : mv (D32 r) = mag 23 r * 2 ^ K2 := by
  obtain ⟨R, e⟩ := mag_double 23 K2 r (by omega)
  unfold D32
  rw [← e, rung_mv]
theorem scale_one (a c k : Nat) (h : a + c = k + K) : 2 ^ a * 2 ^ c = 2 ^ k * one := by
  rw [one_pow, ← Nat.pow_add, ← Nat.pow_add, h]
theorem mag_top (p e c k R : Nat) (h : p + e + c = k + K) (hR : mv R = 2 ^ k * one) : mag p ((e + 1) * 2 ^ p) * 2 ^ c = mv R := by
  rw [mag_binade, hR, scale_one (p + e) c k h]
theorem D32_inf : mag 23 2139095040 * 2 ^ K2 = mv 5183643171103440896 := by
  have := mag_top 23 254 K2 128 5183643171103440896 (by rw [K_eq, K2_eq]) (mv_from_one 128 _ (by decide))
  rwa [show (254 + 1) * 2 ^ 23 = 2139095040 from by decide] at this
theorem D32_lt (r : Nat) (h : r < 2139095040) : D32 r < 5183643171103440896 := by
  rw [← mv_lt, mv_D32, ← D32_inf]
  exact (Nat.mul_lt_mul_right (pow_pos K2)).2 (mag_lt.2 h)

/-- a double as bits of 32; those bits as a double -/
def t32 (x : Nat) : Nat := min (rung 23 K2 (mv (mg x))) 2139095040
def to32B (x : Nat) : Nat := if isN x then 2143289344 else if ng x then 2147483648 + t32 x else t32 x
def from32B (b : Nat) : Nat :=
  if 2139095040 < mg32 b then quiet else
  let m := if mg32 b = 2139095040 then 9218868437227405312 else D32 (mg32 b)
  if ng32 b then 9223372036854775808 + m else m

theorem enc32 (x : Nat) (hx : x < 18446744073709551616) (m a : Nat) (v : m * 2 ^ a = mv (mg x)) :
    Ieee.single.write (.number (sg Ieee.double x) m (Ieee.double.leastPlace + a)) = if ng x then 2147483648 + t32 x else t32 x := by
  simp only [Ieee.Format.write]
  rw [← nearest_scale, v]
  have h := nearest_rung Ieee.single (sg Ieee.double x) (mv (mg x)) K2
  rw [show Ieee.single.leastPlace - (K2 : Int) = Ieee.double.leastPlace by rw [s_lp, lp_K]; omega] at h
  rw [h, s_word, s_inf, s_fb, sg_d x hx]
  rfl

theorem conv32_fin (x : Nat) (hx : x < 18446744073709551616) (fx : mg x < 9218868437227405312) (ht : t32 x < 2139095040) : floatToFloatBits .f64 x .f32 = some (if ng x then 2147483648 + t32 x else t32 x) := by
  have ei := d_inf
  obtain ⟨m, a, e, v⟩ := read_fin Ieee.double x (by rw [rg_d]; omega)
  rw [rg_d] at v
  have he := enc32 x hx m a v
  unfold floatToFloatBits
  rw [if_neg (by decide)]
  have e' : FloatKind.f64.decode x = .number (sg Ieee.double x) m (Ieee.double.leastPlace + a) := e
  rw [e']
  have he' : FloatKind.f32.encode (.number (sg Ieee.double x) m (Ieee.double.leastPlace + a)) = if ng x then 2147483648 + t32 x else t32 x := he
  simp only [he']
  have hr : rg Ieee.single (if ng x then 2147483648 + t32 x else t32 x) = t32 x := by
    rw [rg_s]; unfold mg32; cases ng x <;> simp <;> omega
  obtain ⟨m', a', e2, _⟩ := read_fin Ieee.single (if ng x then 2147483648 + t32 x else t32 x) (by rw [hr, s_inf]; exact ht)
  have e2' : FloatKind.f32.decode (if ng x then 2147483648 + t32 x else t32 x) = _ := e2
  rw [e2']
  rfl
theorem conv32_inf (x : Nat) (hx : x < 18446744073709551616) (fx : mg x = 9218868437227405312) : floatToFloatBits .f64 x .f32 = some (if ng x then 2147483648 + 2139095040 else 2139095040) := by
  have ei := d_inf
  have e := read_inf Ieee.double x d_he (by rw [rg_d]; omega)
  unfold floatToFloatBits
  rw [if_neg (by decide)]
  have e' : FloatKind.f64.decode x = .infinity (sg Ieee.double x) := e
  rw [e']
  show some (Ieee.single.word (sg Ieee.double x) Ieee.single.infRung) = _
  rw [s_word, s_inf, sg_d x hx]
theorem t32_inf (x : Nat) (fx : 5183643171103440896 ≤ mg x) : t32 x = 2139095040 := by
  have h : mag 23 2139095040 * 2 ^ K2 ≤ mv (mg x) := by rw [D32_inf]; exact mv_le.2 fx
  have := rung_ge (p := 23) (d := K2) (by omega) h
  unfold t32; omega

theorem conv64_fin (b : Nat) (hb : b < 4294967296) (fb : mg32 b < 2139095040) : floatToFloatBits .f32 b .f64 = some (if ng32 b then 9223372036854775808 + D32 (mg32 b) else D32 (mg32 b)) := by
  have ei := s_inf
  have hl := D32_lt (mg32 b) fb
  obtain ⟨m, a, e, v⟩ := read_fin Ieee.single b (by rw [rg_s]; omega)
  rw [rg_s] at v
  have he : Ieee.double.write (.number (sg Ieee.single b) m (Ieee.single.leastPlace + a)) = if ng32 b then 9223372036854775808 + D32 (mg32 b) else D32 (mg32 b) := by
    simp only [Ieee.Format.write]
    rw [nearest_up Ieee.double _ m (K2 + a) _ (by rw [s_lp, lp_K]; omega), d_word, d_inf, d_fb, sg_s b hb]
    have : m * 2 ^ (K2 + a) = mag 23 (mg32 b) * 2 ^ K2 := by
      rw [← s_fb, ← v, Nat.mul_assoc, ← Nat.pow_add, Nat.add_comm K2 a]
    rw [this]
    change (if ng32 b = true then 9223372036854775808 + min (D32 (mg32 b)) 9218868437227405312 else min (D32 (mg32 b)) 9218868437227405312) = _
    rw [Nat.min_eq_left (by omega)]
  unfold floatToFloatBits
  rw [if_neg (by decide)]
  have e' : FloatKind.f32.decode b = .number (sg Ieee.single b) m (Ieee.single.leastPlace + a) := e
  rw [e']
  have he' : FloatKind.f64.encode (.number (sg Ieee.single b) m (Ieee.single.leastPlace + a)) = if ng32 b then 9223372036854775808 + D32 (mg32 b) else D32 (mg32 b) := he
  simp only [he']
  have hr : mg (if ng32 b then 9223372036854775808 + D32 (mg32 b) else D32 (mg32 b)) = D32 (mg32 b) := by
    generalize D32 (mg32 b) = y at *
    unfold mg; cases ng32 b <;> simp <;> omega
  obtain ⟨m', a', e2, _⟩ := read_fin Ieee.double (if ng32 b then 9223372036854775808 + D32 (mg32 b) else D32 (mg32 b)) (by rw [rg_d, hr, d_inf]; omega)
  have e2' : FloatKind.f64.decode (if ng32 b then 9223372036854775808 + D32 (mg32 b) else D32 (mg32 b)) = _ := e2
  rw [e2']
  rfl
theorem conv64_inf (b : Nat) (hb : b < 4294967296) (fb : mg32 b = 2139095040) : floatToFloatBits .f32 b .f64 = some (if ng32 b then 9223372036854775808 + 9218868437227405312 else 9218868437227405312) := by
  have ei := s_inf
  have e := read_inf Ieee.single b s_he (by rw [rg_s]; omega)
  unfold floatToFloatBits
  rw [if_neg (by decide)]
  have e' : FloatKind.f32.decode b = .infinity (sg Ieee.single b) := e
  rw [e']
  show some (Ieee.double.word (sg Ieee.single b) Ieee.double.infRung) = _
  rw [d_word, d_inf, sg_s b hb]

/-- the bits of a NaN's conversion are drawn -/
def nanC (w : World) (b : Nat) : Nat := (Question.nanConv .f64 b).cut (w.tape w.drawn (.nanConv .f64 b))
theorem nanC_nan (w : World) (b : Nat) : nanC w b < 18446744073709551616 ∧ isN (nanC w b) = true := by
  unfold nanC
  generalize w.tape w.drawn (.nanConv .f64 b) = t
  show (t % 2) * 2 ^ 63 + 0x7ff0000000000000 + 1 + (t / 2) % (2 ^ 52 - 1) < _ ∧ isN ((t % 2) * 2 ^ 63 + 0x7ff0000000000000 + 1 + (t / 2) % (2 ^ 52 - 1)) = true
  have hb : t / 2 % (2 ^ 52 - 1) < 2 ^ 52 - 1 := Nat.mod_lt _ (by decide)
  generalize t / 2 % (2 ^ 52 - 1) = c at *
  have ha : t % 2 = 0 ∨ t % 2 = 1 := by omega
  rw [isN_true]
  unfold mg
  rcases ha with h | h <;> rw [h] <;> constructor <;> omega
theorem run_conv_nan {P : Program} (w : World) (src dst : TypeId) (b : Nat) (hs : (P.underlying src).isSome = true) (hd : P.underlying dst = some (.float .f64)) (n : 2139095040 < mg32 b) :
    (convert src dst (.float .f32 b)).run P w = .ok (.float .f64 (nanC w b)) w.drew := by
  have ei := s_inf
  obtain ⟨u, hs'⟩ := Option.isSome_iff_exists.1 hs
  have e := read_nan Ieee.single b s_he (by rw [rg_s]; omega)
  have e' : FloatKind.f32.decode b = .nan (sg Ieee.single b) (rg Ieee.single b - Ieee.single.infRung) := e
  cases u <;> simp [convert, run_underlying hs', run_underlying hd, Conv.floatToFloat, e', Question.forced, nanC]

theorem to32B_lt (x : Nat) : to32B x < 4294967296 := by
  unfold to32B t32
  generalize rung 23 K2 (mv (mg x)) = r
  repeat' split
  all_goals omega
theorem from32B_lt (b : Nat) : from32B b < 18446744073709551616 := by
  unfold from32B
  have hq := quiet_lt
  by_cases c : 2139095040 < mg32 b
  · rw [if_pos c]; exact hq
  · rw [if_neg c]
    by_cases c2 : mg32 b = 2139095040
    · simp only [if_pos c2]; split <;> omega
    · have := D32_lt (mg32 b) (by omega)
      simp only [if_neg c2]
      generalize D32 (mg32 b) = y at *
      split <;> omega

/-- there and back -/
theorem back32 (b : Nat) (hb : b < 4294967296) (h : mg32 b ≤ 2139095040) : to32B (from32B b) = b := by
  have hw : b = if ng32 b then 2147483648 + mg32 b else mg32 b := by
    unfold ng32 mg32
    by_cases c : 2147483648 ≤ b
    · rw [decide_eq_true c, if_pos rfl]; omega
    · rw [decide_eq_false c, if_neg (by decide)]; omega
  have key : ∀ m, m ≤ 9218868437227405312 → min (rung 23 K2 (mv m)) 2139095040 = mg32 b → to32B (if ng32 b then 9223372036854775808 + m else m) = b := by
    intro m hm e
    have h1 : mg (if ng32 b then 9223372036854775808 + m else m) = m := by
      unfold mg; cases ng32 b <;> simp <;> omega
    have h2 : ng (if ng32 b then 9223372036854775808 + m else m) = ng32 b := by
      cases ng32 b
      · simp only [Bool.false_eq_true, if_false]; exact ng_of_lt (by omega)
      · simp only [if_true]; exact ng_of_ge (by omega)
    have h3 : isN (if ng32 b then 9223372036854775808 + m else m) = false := isN_false.2 (by rw [h1]; exact hm)
    unfold to32B t32
    rw [h3, h1, h2, e, if_neg (by decide)]
    exact hw.symm
  unfold from32B
  rw [if_neg (by omega)]
  by_cases c : mg32 b = 2139095040
  · simp only [if_pos c]
    refine key _ (by omega) ?_
    have := t32_inf 9218868437227405312 (by decide)
    unfold t32 at this
    rw [c]; exact this
  · simp only [if_neg c]
    have hl := D32_lt (mg32 b) (by omega)
    refine key _ (by omega) ?_
    rw [mv_D32, rung_mag 23 K2 _ (by omega)]; omega
end Go.Proofs.YtjgbaenihkplpaaDoor

/-
  Doubles as floats of 16 bits and back, by plain numbers; a quotient by a power of two (no program).
-/
namespace Go.Proofs.YtjgbaenihkplpaaDoor
open Tf

theorem read_bound (f : Ieee.Format) (x : Nat) (h : rg f x < f.infRung) : ∃ m a : Nat, f.read x = .number (sg f x) m (f.leastPlace + a) ∧ m * 2 ^ a = mag f.fractionBits (rg f x) ∧ m < 2 * 2 ^ f.fractionBits := by
  have hp := pow_pos f.fractionBits
  unfold Ieee.Format.read
  simp only []
  unfold mag
  by_cases c : rg f x < f.binade
  · refine ⟨rg f x, 0, ?_, ?_, ?_⟩
    · rw [if_pos (show x % f.signWeight < f.binade from c)]; simp [sg, rg]
    · rw [if_pos (show rg f x < 2 ^ f.fractionBits from c)]; omega
    · have : rg f x < 2 ^ f.fractionBits := c
      omega
  · refine ⟨f.binade + rg f x % f.binade, rg f x / f.binade - 1, ?_, ?_, ?_⟩
    · rw [if_neg (show ¬ x % f.signWeight < f.binade from c), if_pos (show x % f.signWeight < f.infRung from h)]; rfl
    · rw [if_neg (show ¬ rg f x < 2 ^ f.fractionBits from c)]; rfl
    · have : rg f x % f.binade < 2 ^ f.fractionBits := Nat.mod_lt _ hp
      have e : f.binade = 2 ^ f.fractionBits := rfl
      omega

/-- a quotient by a power of two that is exact -/
theorem div_exact (x e r : Nat) (hx : x < 18446744073709551616) (fx : mg x < 9218868437227405312) (he : (e + 1) * 4503599627370496 < 9218868437227405312) (hr : r ≤ 9218868437227405312) (E : mv r * 2 ^ (52 + e) = mv (mg x) * one) :
    Ieee.double.div x ((e + 1) * 4503599627370496) = some (if ng x then 9223372036854775808 + r else r) := by
  have ei := d_inf
  have eb := d_bin
  obtain ⟨m, a, e1, v, hm⟩ := read_bound Ieee.double x (by rw [rg_d]; omega)
  rw [d_fb, rg_d] at v
  rw [d_fb] at hm
  have e2 : Ieee.double.read ((e + 1) * 4503599627370496) = .number false 4503599627370496 (Ieee.double.leastPlace + e) := by
    unfold Ieee.Format.read
    simp only []
    rw [d_sw, eb, ei]
    have h1 : (e + 1) * 4503599627370496 / 9223372036854775808 = 0 := by omega
    have h2 : (e + 1) * 4503599627370496 % 9223372036854775808 = (e + 1) * 4503599627370496 := by omega
    rw [h1, h2, if_neg (by omega), if_pos he]
    have h3 : (e + 1) * 4503599627370496 % 4503599627370496 = 0 := by omega
    have h4 : (e + 1) * 4503599627370496 / 4503599627370496 - 1 = e := by omega
    rw [h3, h4]; rfl
  unfold Ieee.Format.div
  rw [e1, e2]
  simp only [Ieee.Datum.quotient, shl]
  rw [if_neg (by decide)]
  simp only [Option.map, Ieee.Format.write, Bool.xor_false]
  have hlog : Nat.log2 4503599627370496 = 52 := by decide
  rw [hlog, d_fb]
  have hml : m.log2 ≤ 52 := log2_small (show m < 2 ^ (52 + 1) by omega)
  obtain ⟨c, hc⟩ : ∃ c, 52 + 2 + 52 - m.log2 = 52 + c ∧ 2 ≤ c := ⟨54 - m.log2, by omega, by omega⟩
  rw [hc.1]
  have hd : m * 2 ^ (52 + c) = m * 2 ^ c * 4503599627370496 := by
    rw [Nat.add_comm, Nat.pow_add, Nat.mul_assoc]
  rw [hd, Nat.mul_mod_left, Nat.mul_div_cancel _ (by decide)]
  have hz : (0 != 0 : Bool).toNat = 0 := by decide
  rw [hz, Nat.add_zero]
  have h2 : 2 * (m * 2 ^ c) = m * 2 ^ (c + 1) := by rw [Nat.pow_succ]; simp only [Nat.mul_comm, Nat.mul_left_comm]
  rw [h2, nearest_scale]
  have hp : Ieee.double.leastPlace + (a : Int) - (Ieee.double.leastPlace + (e : Int)) - ((52 + c : Nat) : Int) - 1 + ((c + 1 : Nat) : Int) = (Ieee.double.leastPlace - ((52 + e : Nat) : Int)) + ((a + K : Nat) : Int) := by
    rw [lp_K]; omega
  rw [hp, ← nearest_scale, nearest_rung, d_fb, d_inf, d_word, sg_d x hx]
  have hv : m * 2 ^ (a + K) = mag 52 r * 2 ^ (52 + e) := by
    show _ = mv r * _
    rw [E, one_pow, Nat.pow_add, ← Nat.mul_assoc, v]; rfl
  rw [hv, rung_mag 52 (52 + e) r (by omega), Nat.min_eq_left hr]

/-- the places between the least of 16 bits and the least of 64 -/
def H2 : Nat := 1050
theorem H2_eq : H2 = 1050 := rfl
def t16 (x : Nat) : Nat := min (rung 10 H2 (mv (mg x))) 31744
def D16 (r : Nat) : Nat := rung 52 0 (mag 10 r * 2 ^ H2)
theorem mv_D16 (r : Nat) : mv (D16 r) = mag 10 r * 2 ^ H2 := by
  obtain ⟨R, e⟩ := mag_double 10 H2 r (by omega)
  unfold D16
  rw [← e, rung_mv]
theorem D16_inf : mag 10 31744 * 2 ^ H2 = mv 4679240012837945344 := by
  have := mag_top 10 30 H2 16 4679240012837945344 (by rw [K_eq, H2_eq]) (mv_from_one 16 _ (by decide))
  rwa [show (30 + 1) * 2 ^ 10 = 31744 from by decide] at this
theorem D16_lt (r : Nat) (h : r < 31744) : D16 r < 4679240012837945344 := by
  rw [← mv_lt, mv_D16, ← D16_inf]
  exact (Nat.mul_lt_mul_right (pow_pos H2)).2 (mag_lt.2 h)
theorem t16_inf (x : Nat) (fx : 4679240012837945344 ≤ mg x) : t16 x = 31744 := by
  have h : mag 10 31744 * 2 ^ H2 ≤ mv (mg x) := by rw [D16_inf]; exact mv_le.2 fx
  have := rung_ge (p := 10) (d := H2) (by omega) h
  unfold t16; omega

def to16B (x : Nat) : Nat := if isN x then 32256 else if ng x then 32768 + t16 x else t16 x
def ng16 (b : Nat) : Bool := decide (32768 ≤ b)
def from16B (b : Nat) : Nat :=
  if 31744 < b % 32768 then quiet else
  let m := if b % 32768 = 31744 then 9218868437227405312 else D16 (b % 32768)
  if ng16 b then 9223372036854775808 + m else m
theorem to16B_lt (x : Nat) : to16B x < 65536 := by
  unfold to16B t16
  generalize rung 10 H2 (mv (mg x)) = r
  repeat' split
  all_goals omega
theorem from16B_lt (b : Nat) : from16B b < 18446744073709551616 := by
  unfold from16B
  have hq := quiet_lt
  by_cases c : 31744 < b % 32768
  · rw [if_pos c]; exact hq
  · rw [if_neg c]
    by_cases c2 : b % 32768 = 31744
    · simp only [if_pos c2]; split <;> omega
    · have := D16_lt (b % 32768) (by omega)
      simp only [if_neg c2]
      generalize D16 (b % 32768) = y at *
      split <;> omega
theorem back16 (b : Nat) (hb : b < 65536) (h : b % 32768 ≤ 31744) : to16B (from16B b) = b := by
  have hw : b = if ng16 b then 32768 + b % 32768 else b % 32768 := by
    unfold ng16
    by_cases c : 32768 ≤ b
    · rw [decide_eq_true c, if_pos rfl]; omega
    · rw [decide_eq_false c, if_neg (by decide)]; omega
  have key : ∀ m, m ≤ 9218868437227405312 → min (rung 10 H2 (mv m)) 31744 = b % 32768 → to16B (if ng16 b then 9223372036854775808 + m else m) = b := by
    intro m hm e
    have h1 : mg (if ng16 b then 9223372036854775808 + m else m) = m := by
      unfold mg; cases ng16 b <;> simp <;> omega
    have h2 : ng (if ng16 b then 9223372036854775808 + m else m) = ng16 b := by
      cases ng16 b
      · simp only [Bool.false_eq_true, if_false]; exact ng_of_lt (by omega)
      · simp only [if_true]; exact ng_of_ge (by omega)
    have h3 : isN (if ng16 b then 9223372036854775808 + m else m) = false := isN_false.2 (by rw [h1]; exact hm)
    unfold to16B t16
    rw [h3, h1, h2, e, if_neg (by decide)]
    exact hw.symm
  unfold from16B
  rw [if_neg (by omega)]
  by_cases c : b % 32768 = 31744
  · simp only [if_pos c]
    refine key _ (by omega) ?_
    have := t16_inf 9218868437227405312 (by decide)
    unfold t16 at this
    rw [c]; exact this
  · simp only [if_neg c]
    have hl := D16_lt (b % 32768) (by omega)
    refine key _ (by omega) ?_
    rw [mv_D16, rung_mag 10 H2 _ (by omega)]; omega

/-! how the code makes the bits of 16 -/
theorem mv_add_binade (r : Nat) (h : 4503599627370496 ≤ r) : mv (r + 4503599627370496) = 2 * mv r := by
  have hp : (2 : Nat) ^ 52 = 4503599627370496 := by decide
  unfold mv mag
  rw [hp, if_neg (by omega), if_neg (by omega)]
  have h1 : (r + 4503599627370496) % 4503599627370496 = r % 4503599627370496 := by omega
  have h2 : (r + 4503599627370496) / 4503599627370496 - 1 = (r / 4503599627370496 - 1) + 1 := by omega
  rw [h1, h2, Nat.pow_succ]
  simp only [Nat.mul_comm, Nat.mul_left_comm]
theorem mv_half : 2 * mv 4602678819172646912 = one := by
  have := mv_add_binade 4602678819172646912 (by decide)
  exact this.symm
theorem mv_c24 : mv 4715268809856909312 = 2 ^ 24 * one := mv_from_one 24 _ (by decide)

/-- the magnitude in steps of the first band: exact, or too great -/
theorem times24 (m : Nat) (hm : m < 9218868437227405312) : ∃ s, s ≤ 9218868437227405312 ∧ Ieee.double.mul m 4715268809856909312 = some s ∧ (s < 9218868437227405312 → mv s = mv m * 2 ^ 24) ∧ (s = 9218868437227405312 → mv 9218868437227405312 ≤ mv m * 2 ^ 24) := by
  have e1 : mg m = m := mg_of_lt (by omega)
  obtain ⟨A, k, hA, e⟩ := mag_form 52 m
  obtain ⟨R, hR⟩ := rep 52 A (k + 24) hA
  have hR' : mv R = mv m * 2 ^ 24 := by
    show mag 52 R = mag 52 m * 2 ^ 24
    rw [hR, e, Nat.mul_assoc, ← Nat.pow_add]
  have hmul : Ieee.double.mul m 4715268809856909312 = some (min R 9218868437227405312) := by
    rw [mul_d m _ (by omega) (by decide) (by omega) (by decide), e1, ng_of_lt (show m < 9223372036854775808 by omega)]
    have e2 : mg 4715268809856909312 = 4715268809856909312 := by decide
    have e3 : ng 4715268809856909312 = false := by decide
    rw [e2, e3, mv_c24]
    have : mv m * (2 ^ 24 * one) = mag 52 R * 2 ^ K := by
      show _ = mv R * _
      rw [hR', one_pow, Nat.mul_assoc]
    rw [this]
    have hK : (1074 : Nat) = K := rfl
    rw [hK, rung_mag 52 K R (by omega)]
    rfl
  refine ⟨min R 9218868437227405312, by omega, hmul, fun h => ?_, fun h => ?_⟩
  · rw [Nat.min_eq_left (by omega)]; exact hR'
  · rw [← hR']; exact mv_le.2 (by omega)
/-- a half of what is at least 1 -/
theorem halved (s : Nat) (h : 4607182418800017408 ≤ s) (h' : s < 9218868437227405312) : Ieee.double.mul s 4602678819172646912 = some (s - 4503599627370496) := by
  have e1 : mg s = s := mg_of_lt (by omega)
  have := mul_exact s 4602678819172646912 (s - 4503599627370496) (by omega) (by omega) (by decide) (by omega) ?_
  · rw [ng_of_lt (show s < 9223372036854775808 by omega), if_neg (by decide)] at this; exact this
  · have hb := mv_add_binade (s - 4503599627370496) (by omega)
    rw [show s - 4503599627370496 + 4503599627370496 = s by omega] at hb
    rw [e1, hb, ← mv_half, Nat.mul_comm 2 (mv (s - 4503599627370496)), Nat.mul_assoc]
theorem inf_times (y : Nat) (hy : y < 9218868437227405312) (h0 : 0 < y) : Ieee.double.mul 9218868437227405312 y = some 9218868437227405312 := by
  have ei := d_inf
  have e1 : mg y = y := mg_of_lt (by omega)
  obtain ⟨m, a, e, v⟩ := read_fin Ieee.double y (by rw [rg_d]; omega)
  have hm : m ≠ 0 := by
    intro h; subst h
    rw [Nat.zero_mul, d_fb, rg_d, e1] at v
    have := (@mv_lt 0 y).2 h0
    rw [mv_zero] at this
    unfold mv at this; omega
  have e2 : sg Ieee.double 9218868437227405312 = false := by rw [sg_d _ (by decide)]; decide
  have e3 : sg Ieee.double y = false := by rw [sg_d _ (by omega)]; exact ng_of_lt (by omega)
  unfold Ieee.Format.mul
  rw [read_inf Ieee.double 9218868437227405312 d_he (by rw [rg_d]; decide), e, e2, e3]
  simp only [Ieee.Datum.product, if_neg hm, Option.map, Ieee.Format.write, Bool.xor_false]
  rw [d_word, d_inf, if_neg (by decide)]

/-- the band, and the bits -/
theorem band_bits (V s n : Nat) (hs : mv s = V * 2 ^ 24) (h1 : s < (1034 + n) * 4503599627370496) (h2 : n = 0 ∨ (1033 + n) * 4503599627370496 ≤ s) :
    mv (s - n * 4503599627370496) * 2 ^ n = mv s ∧ n * 1024 + rne (mv (s - n * 4503599627370496)) one = rung 10 H2 V := by
  have hK := K_eq
  have hH := H2_eq
  have hp52 : (2 : Nat) ^ 52 = 4503599627370496 := by decide
  have key : ∀ j, j ≤ n → mv (s - j * 4503599627370496) * 2 ^ j = mv s := by
    intro j
    induction j with
    | zero => intro _; simp
    | succ j ih =>
      intro hj
      have := ih (by omega)
      have hb := mv_add_binade (s - (j + 1) * 4503599627370496) (by omega)
      rw [show s - (j + 1) * 4503599627370496 + 4503599627370496 = s - j * 4503599627370496 by omega] at hb
      rw [hb] at this
      rw [Nat.pow_succ, ← this]
      simp only [Nat.mul_comm, Nat.mul_left_comm, Nat.mul_assoc]
  have hk := key n (Nat.le_refl _)
  refine ⟨hk, ?_⟩
  have hlog : V.log2 - (10 + H2) = n := by
    have up : V < 2 ^ (10 + H2 + n + 1) := by
      have e := mv_from_one (11 + n) ((1034 + n) * 4503599627370496) (by rw [hp52]; omega)
      have : mv s < mv ((1034 + n) * 4503599627370496) := mv_lt.2 h1
      rw [hs, e, one_pow] at this
      have e2 : 2 ^ (11 + n) * 2 ^ K = 2 ^ (10 + H2 + n + 1) * 2 ^ 24 := by
        rw [← Nat.pow_add, ← Nat.pow_add]; congr 1; omega
      rw [e2] at this
      exact (Nat.mul_lt_mul_right (pow_pos 24)).1 this
    have hup := log2_small (k := 10 + H2 + n) up
    rcases h2 with h2 | h2
    · clear up
      omega
    · have lo : 2 ^ (10 + H2 + n) ≤ V := by
        have e := mv_from_one (10 + n) ((1033 + n) * 4503599627370496) (by rw [hp52]; omega)
        have : mv ((1033 + n) * 4503599627370496) ≤ mv s := mv_le.2 h2
        rw [hs, e, one_pow] at this
        have e2 : 2 ^ (10 + n) * 2 ^ K = 2 ^ (10 + H2 + n) * 2 ^ 24 := by
          rw [← Nat.pow_add, ← Nat.pow_add]; congr 1; omega
        rw [e2] at this
        exact Nat.le_of_mul_le_mul_right this (pow_pos 24)
      have := log2_of lo up
      clear lo up
      omega
  unfold rung
  rw [hlog]
  have e3 : rne (mv (s - n * 4503599627370496)) one = rne V (2 ^ (n + H2)) := by
    have a1 := rne_scale (mv (s - n * 4503599627370496)) one (2 ^ n) (pow_pos n)
    have a2 := rne_scale V (2 ^ (n + H2)) (2 ^ 24) (pow_pos 24)
    rw [hk, hs] at a1
    have e4 : one * 2 ^ n = 2 ^ (n + H2) * 2 ^ 24 := by
      have h5 : K + n = n + H2 + 24 := by omega
      rw [one_pow, ← Nat.pow_add, ← Nat.pow_add, h5]
    rw [e4] at a1
    rw [← a1, a2]
  rw [e3]
theorem past_bits (V s : Nat) (hs : mv s ≤ V * 2 ^ 24) (h : 4787326403894837248 ≤ s) : 31744 ≤ rung 10 H2 V := by
  refine rung_ge (by omega) ?_
  rw [D16_inf, mv_from_one 16 _ (by decide)]
  have e := mv_from_one 40 4787326403894837248 (by decide)
  have h3 := (@mv_le 4787326403894837248 s).2 h
  rw [e] at h3
  generalize one = O at *
  generalize mv s = ms at *
  clear e h
  omega

end Go.Proofs.YtjgbaenihkplpaaDoor

/-
  How far a double lies from the whole numbers that it is made, by plain numbers (no program).
-/
namespace Go.Proofs.YtjgbaenihkplpaaDoor
open Tf

theorem rne_near (n g : Nat) (hg : 0 < g) : 2 * n ≤ 2 * (rne n g * g) + g ∧ 2 * (rne n g * g) ≤ 2 * n + g ∧ ((2 * n = 2 * (rne n g * g) + g ∨ 2 * (rne n g * g) = 2 * n + g) → rne n g % 2 = 0) := by
  have h := Nat.div_add_mod n g
  have hm := Nat.mod_lt n hg
  rw [Nat.mul_comm] at h
  unfold rne
  by_cases c : g < 2 * (n % g) ∨ (g = 2 * (n % g) ∧ n / g % 2 = 1)
  · rw [if_pos c, Nat.add_mul, Nat.one_mul]
    generalize n / g * g = P at *
    omega
  · rw [if_neg c, Nat.add_zero]
    generalize n / g * g = P at *
    omega
theorem down_near (neg : Bool) (n g : Nat) (hg : 0 < g) : (neg = false → cutq .down neg n g * g ≤ n ∧ n < cutq .down neg n g * g + g) ∧ (neg = true → n ≤ cutq .down neg n g * g ∧ cutq .down neg n g * g < n + g) := by
  have h := Nat.div_add_mod n g
  have hm := Nat.mod_lt n hg
  rw [Nat.mul_comm] at h
  unfold cutq
  refine ⟨fun e => ?_, fun e => ?_⟩
  · subst e
    simp only [Bool.false_and, Bool.toNat_false, Nat.add_zero]
    generalize n / g * g = P at *
    omega
  · subst e
    simp only [Bool.true_and]
    by_cases c : n % g = 0
    · rw [decide_eq_false (by omega)]
      simp only [Bool.toNat_false, Nat.add_zero]
      generalize n / g * g = P at *
      omega
    · rw [decide_eq_true c]
      simp only [Bool.toNat_true, Nat.add_mul, Nat.one_mul]
      generalize n / g * g = P at *
      omega

/-- at most a half away, at a half even -/
theorem even_near (x : Nat) : 2 * (sv x - cq .even x * one) ≤ one ∧ -(one : Int) ≤ 2 * (sv x - cq .even x * one) ∧ ((2 * (sv x - cq .even x * one) = one ∨ 2 * (sv x - cq .even x * one) = -(one : Int)) → cq .even x % 2 = 0) := by
  have h := rne_near (mv (mg x)) one one_pos
  unfold sv cq
  rw [cutq_even]
  generalize hq : rne (mv (mg x)) one = q at *
  have hp : ((q * one : Nat) : Int) = (q : Int) * (one : Int) := Int.natCast_mul ..
  cases ng x
  · simp only [Bool.false_eq_true, if_false]
    rw [← hp]
    generalize q * one = Q at *
    omega
  · simp only [if_true, Int.neg_mul]
    rw [← hp]
    generalize q * one = Q at *
    omega
/-- not above, less than 1 below -/
theorem down_floor (x : Nat) : cq .down x * one ≤ sv x ∧ sv x < cq .down x * one + one := by
  have h := down_near (ng x) (mv (mg x)) one one_pos
  unfold sv cq
  generalize hq : cutq .down (ng x) (mv (mg x)) one = q at *
  have hp : ((q * one : Nat) : Int) = (q : Int) * (one : Int) := Int.natCast_mul ..
  have := one_pos
  cases hn : ng x
  · have h' := h.1 hn
    simp only [Bool.false_eq_true, if_false]
    rw [← hp]
    generalize q * one = Q at *
    omega
  · have h' := h.2 hn
    simp only [if_true, Int.neg_mul]
    rw [← hp]
    generalize q * one = Q at *
    omega

/-- a whole number that a double was made is a double -/
theorem fl_cq (way : Ieee.Toward) (x : Nat) (hx : x < 18446744073709551616) (fx : mg x < 9218868437227405312) :
    rn false (cq way x * one) < 18446744073709551616 ∧ mg (rn false (cq way x * one)) < 9218868437227405312 ∧ sv (rn false (cq way x * one)) = cq way x * one := by
  have h1 := sv_itV way x hx fx
  obtain ⟨_, h2, _⟩ := itV_fin way x hx fx
  have h3 := itV_lt way x
  rw [← h1]
  by_cases c : 0 < mg (itV way x)
  · rw [rn_sv false _ h3 c (by omega)]
    exact ⟨h3, h2, rfl⟩
  · have e : mg (itV way x) = 0 := by omega
    have e2 : sv (itV way x) = 0 := by unfold sv; rw [e, mv_zero]; split <;> rfl
    rw [e2, rn_zero]
    exact ⟨by decide, by decide, by decide⟩

/-- what is left of a double of at least a half is a double -/
theorem left_exact (x : Nat) (j : Int) (h0 : 4602678819172646912 ≤ mg x) (hu : (sv x - j * one).natAbs ≤ one) : ∃ r, mv r = (sv x - j * one).natAbs := by
  have hK := K_eq
  by_cases c : 4841369599423283200 ≤ mg x
  · obtain ⟨q, hq⟩ := whole_great (mg x) c
    have e : ∃ t : Int, sv x - j * one = t * one := by
      unfold sv; rw [hq, Int.natCast_mul]
      cases ng x
      · exact ⟨(q : Int) - j, by simp [Int.sub_mul]⟩
      · exact ⟨-(q : Int) - j, by simp [Int.sub_mul, Int.neg_mul]⟩
    obtain ⟨t, ht⟩ := e
    rw [ht, Int.natAbs_mul, Int.natAbs_natCast] at hu ⊢
    have h1 : t.natAbs ≤ 1 := by
      have : t.natAbs * one ≤ 1 * one := by omega
      exact Nat.le_of_mul_le_mul_right this one_pos
    obtain ⟨r, hr, _⟩ := rep_one t.natAbs (by omega)
    exact ⟨r, hr⟩
  · have hk : ∃ A k, k ≤ K ∧ K ≤ k + 53 ∧ mv (mg x) = A * 2 ^ k := by
      refine ⟨2 ^ 52 + mg x % 2 ^ 52, mg x / 2 ^ 52 - 1, by omega, by omega, ?_⟩
      unfold mv mag
      rw [if_neg (by omega)]
    obtain ⟨A, k, h1, h2, e⟩ := hk
    have eo : one = 2 ^ (K - k) * 2 ^ k := by rw [one_pow, ← Nat.pow_add]; congr 1; omega
    have e2 : ∃ t : Int, sv x - j * one = t * (2 ^ k : Nat) := by
      have e3 : (one : Int) = ((2 ^ (K - k) : Nat) : Int) * ((2 ^ k : Nat) : Int) := by rw [← Int.natCast_mul, ← eo]
      unfold sv; rw [e, Int.natCast_mul, e3]
      cases ng x
      · exact ⟨(A : Int) - j * (2 ^ (K - k) : Nat), by simp only [Bool.false_eq_true, if_false]; rw [Int.sub_mul, Int.mul_assoc]⟩
      · exact ⟨-(A : Int) - j * (2 ^ (K - k) : Nat), by simp only [if_true]; rw [Int.sub_mul, Int.mul_assoc, Int.neg_mul]⟩
    obtain ⟨t, ht⟩ := e2
    rw [ht, Int.natAbs_mul, Int.natAbs_natCast] at hu ⊢
    rw [eo] at hu
    have h3 : t.natAbs ≤ 2 ^ (K - k) := Nat.le_of_mul_le_mul_right hu (pow_pos k)
    have h4 : 2 ^ (K - k) ≤ 2 ^ 53 := Nat.pow_le_pow_right (by omega) (by omega)
    exact rep 52 t.natAbs k (Nat.le_trans h3 h4)

theorem R_exact (v : Int) (r : Nat) (h : mv r = v.natAbs) (hr : r ≤ 9218868437227405312) : R v = if v < 0 then -(r : Int) else (r : Int) := by
  unfold R
  rw [← h, rung_mv, Nat.min_eq_left hr]
theorem mv_one : mv 4607182418800017408 = one := rfl
theorem R_mv (r : Nat) (hr : r ≤ 9218868437227405312) : R (mv r : Int) = r ∧ R (-(mv r : Int)) = -(r : Int) := by
  refine ⟨?_, ?_⟩
  · rw [R_exact _ r (by rw [Int.natAbs_natCast]) hr, if_neg (by omega)]
  · rw [R_exact _ r (by rw [Int.natAbs_neg, Int.natAbs_natCast]) hr]
    by_cases c : r = 0
    · subst c; rw [mv_zero]; simp
    · have := (@mv_lt 0 r).2 (by omega)
      rw [mv_zero] at this
      rw [if_pos (by omega)]

/-- the rank of what is left when x is made whole to the nearest -/
theorem even_left (x : Nat) : R (sv x - cq .even x * one) ≤ 4602678819172646912 ∧ -4602678819172646912 ≤ R (sv x - cq .even x * one) ∧ ((R (sv x - cq .even x * one) = 4602678819172646912 ∨ R (sv x - cq .even x * one) = -4602678819172646912) → cq .even x % 2 = 0) := by
  obtain ⟨a, b, c⟩ := even_near x
  have hh : (2 : Int) * ((mv 4602678819172646912 : Nat) : Int) = (one : Int) := by
    have := mv_half
    rw [← this]; simp
  obtain ⟨r1, r2⟩ := R_mv 4602678819172646912 (by decide)
  have ea : sv x - cq .even x * one ≤ ((mv 4602678819172646912 : Nat) : Int) := by omega
  have eb : -((mv 4602678819172646912 : Nat) : Int) ≤ sv x - cq .even x * one := by omega
  have h1 := R_mono ea
  have h2 := R_mono eb
  rw [r1] at h1
  rw [r2] at h2
  refine ⟨h1, h2, fun h => ?_⟩
  by_cases z : cq .even x % 2 = 0
  · exact z
  · exfalso
    have hge : 4602678819172646912 ≤ mg x := by
      by_cases c2 : 4602678819172646912 ≤ mg x
      · exact c2
      · exfalso
        have hlt : mv (mg x) < mv 4602678819172646912 := mv_lt.2 (by omega)
        have hq : rne (mv (mg x)) one = 0 := by
          have h5 := rne_near (mv (mg x)) one one_pos
          have h6 := mv_half
          have h7 : rne (mv (mg x)) one * one < 1 * one := by omega
          have := Nat.lt_of_mul_lt_mul_right h7
          omega
        have : cq .even x = 0 := by
          unfold cq; rw [cutq_even, hq]; split <;> rfl
        omega
    have hne := fun hh => z (c hh)
    obtain ⟨r, hr⟩ := left_exact x (cq .even x) hge (by omega)
    have hr2 : mv r < mv 4602678819172646912 := by
      rw [hr]
      have h6 : 2 * (sv x - cq .even x * one) ≠ one := fun h7 => hne (.inl h7)
      have h8 : 2 * (sv x - cq .even x * one) ≠ -(one : Int) := fun h7 => hne (.inr h7)
      omega
    have hr3 := mv_lt.1 hr2
    rw [R_exact _ r hr (by omega)] at h
    split at h <;> omega
/-- the rank of what is left when x is made whole downwards -/
theorem down_left (x : Nat) : 0 ≤ R (sv x - cq .down x * one) ∧ (R (sv x - cq .down x * one) < 4607182418800017408 ∨ (R (sv x - cq .down x * one) = 4607182418800017408 ∧ rk x < 0 ∧ -4607182418800017408 < rk x)) := by
  obtain ⟨a, b⟩ := down_floor x
  have r0 : R 0 = 0 := by
    have := (R_mv 0 (by decide)).1
    rw [mv_zero] at this; exact this
  have h1 := R_mono (show (0 : Int) ≤ sv x - cq .down x * one by omega)
  rw [r0] at h1
  refine ⟨h1, ?_⟩
  by_cases hge : 4602678819172646912 ≤ mg x
  · obtain ⟨r, hr⟩ := left_exact x (cq .down x) hge (by omega)
    have hr2 : mv r < mv 4607182418800017408 := by rw [hr, mv_one]; omega
    have hr3 := mv_lt.1 hr2
    rw [R_exact _ r hr (by omega)]
    left
    split <;> omega
  · have hlt : mv (mg x) < mv 4602678819172646912 := mv_lt.2 (by omega)
    have h6 := mv_half
    cases hn : ng x
    · left
      have hq : cq .down x = 0 := by
        have e : (cq .down x) * one < 1 * one := by
          have : sv x = mv (mg x) := by unfold sv; rw [hn]; rfl
          omega
        have e2 : cq .down x < 1 := Int.lt_of_mul_lt_mul_right e (by omega)
        have : 0 ≤ cq .down x := by unfold cq; rw [hn]; simp
        omega
      rw [hq, Int.zero_mul, Int.sub_zero, R_sv x (by omega)]
      unfold rk; rw [hn, if_neg (by decide)]; omega
    · by_cases z : mg x = 0
      · left
        have hs : sv x = 0 := by unfold sv; rw [z, mv_zero]; split <;> rfl
        have hq : cq .down x = 0 := by
          unfold cq; rw [z, mv_zero, hn]
          have := cutq_mul .down true 0 one one_pos
          rw [Nat.zero_mul] at this
          rw [this]; rfl
        rw [hq, hs, Int.zero_mul, Int.sub_zero, r0]; decide
      · have e2 : (R (sv x - cq .down x * one)) ≤ R (mv 4607182418800017408 : Int) := R_mono (by rw [mv_one]; omega)
        rw [(R_mv 4607182418800017408 (by decide)).1] at e2
        have hk : rk x = -(mg x : Int) := by unfold rk; rw [hn]; rfl
        rcases Int.lt_or_eq_of_le e2 with h | h
        · exact .inl h
        · exact .inr ⟨h, by omega, by omega⟩

/-- both are of 64 bits just where x is -/
theorem cOk_wOk (way : Ieee.Toward) (x : Nat) (hx : x < 18446744073709551616) : cOk way x = wOk x := by
  cases n : isN x
  · by_cases c : 4841369599423283200 ≤ mg x
    · by_cases fx : mg x < 9218868437227405312
      · obtain ⟨q, hq⟩ := whole_great (mg x) c
        rw [← wOk_itV way x hx n]
        have h := itV_fin way x hx fx
        have e : itV way x = x := by
          have h3 := h.2.2
          rw [hq, cutq_mul _ _ _ _ one_pos, ← hq] at h3
          have h4 := mv_inj.1 h3
          have w1 := word_eq x hx
          have w2 := word_eq (itV way x) (itV_lt way x)
          rw [h4, h.1] at w2
          rw [w2]; exact w1.symm
        rw [e]
      · rw [← wOk_itV way x hx n, itV_inf way x hx (by have := isN_false.1 n; omega)]
    · have h1 : wOk x = true := by
        rw [wOk_rk x hx, n]
        have hr : rk x = mg x ∨ rk x = -(mg x : Int) := by unfold rk; split <;> simp
        rw [decide_eq_true (by omega), decide_eq_true (by omega)]; rfl
      have e : mv 4841369599423283200 = 2 ^ 52 * one := mv_from_one 52 _ (by decide)
      have hl : mv (mg x) < 2 ^ 52 * one := by rw [← e]; exact mv_lt.2 (by omega)
      have hq : mv (mg x) / one < 2 ^ 52 := (Nat.div_lt_iff_lt_mul one_pos).2 hl
      have hc := cutq_le way (ng x) (mv (mg x)) one
      have h2 : cOk way x = true := by
        unfold cOk fin
        have h3 : -9223372036854775808 ≤ cq way x ∧ cq way x < 9223372036854775808 := by
          unfold cq
          generalize cutq way (ng x) (mv (mg x)) one = Q at *
          split <;> omega
        rw [decide_eq_true (by omega), decide_eq_true h3.1, decide_eq_true h3.2]; rfl
      rw [h1, h2]
  · rw [(cOk_nan way n).1, (wOk_nan hx n).1]
end Go.Proofs.YtjgbaenihkplpaaDoor

/-
  What Clamp of package conv returns: walks over the program.
-/
namespace Go.Proofs.YtjgbaenihkplpaaDoor
open Go.RowKit Tf
attribute [local go_sem] run_bits run_from raw_feq raw_fne raw_flt raw_fgt run_neg

/-- the ends; the answer -/
def clampM (most : Int) : Int := if most < 0 then 0 else most
def clampB (x : Nat) (most : Int) : Int :=
  if isN x then 0 else if cOk .even x then min (max (cI .even x) (-clampM most)) (clampM most) else if fgt x 0 then clampM most else -clampM most

end Go.Proofs.YtjgbaenihkplpaaDoor

/-
  Order and opposites of conversions, by plain numbers (no program).
-/
namespace Go.Proofs.YtjgbaenihkplpaaDoor
open Tf

theorem sv_le_iff (x y : Nat) : sv x ≤ sv y ↔ rk x ≤ rk y := by
  have := sv_lt_iff y x
  omega
theorem cq_down_mono {x y : Nat} (h : sv x ≤ sv y) : cq .down x ≤ cq .down y := by
  have a := (down_floor x).1
  have b := (down_floor y).2
  have e : cq .down x * one < (cq .down y + 1) * one := by rw [Int.add_mul, Int.one_mul]; omega
  have := Int.lt_of_mul_lt_mul_right e (Int.le_of_lt onep)
  omega
theorem cq_even_mono {x y : Nat} (h : sv x ≤ sv y) : cq .even x ≤ cq .even y := by
  by_cases c : cq .even x ≤ cq .even y
  · exact c
  · exfalso
    obtain ⟨a1, a2, a3⟩ := even_near x
    obtain ⟨b1, b2, b3⟩ := even_near y
    have o := onep
    have e : (cq .even y + 1) * one ≤ cq .even x * one := Int.mul_le_mul_of_nonneg_right (by omega) (by omega)
    rw [Int.add_mul, Int.one_mul] at e
    have p1 := a3 (.inr (by omega))
    have p2 := b3 (.inl (by omega))
    have e2 : cq .even x * one = (cq .even y + 1) * one := by rw [Int.add_mul, Int.one_mul]; omega
    have := Int.eq_of_mul_eq_mul_right (by omega) e2
    omega

/-- what has no rank below the least whole number of 64 bits, and none above the greatest -/
theorem cOk_rk (way : Ieee.Toward) (x : Nat) (hx : x < 18446744073709551616) (n : isN x = false) : cOk way x = (decide (-4890909195324358656 ≤ rk x) && decide (rk x < 4890909195324358656)) := by
  rw [cOk_wOk way x hx, wOk_rk x hx, n]; simp
theorem fgt_zero (x : Nat) (hx : x < 18446744073709551616) (n : isN x = false) : fgt x 0 = decide (0 < rk x) := by
  have e : rk 0 = 0 := by decide
  have n0 : isN 0 = false := by decide
  rw [fgt_rk x 0 hx (by decide), n, n0, e]; simp
theorem cI_eq (way : Ieee.Toward) (x : Nat) (h : cOk way x = true) : cI way x = cq way x := by unfold cI; rw [h, if_pos rfl]

theorem clampM_nonneg (most : Int) : 0 ≤ clampM most := by unfold clampM; split <;> omega
theorem clampB_num (x : Nat) (most : Int) (hx : x < 18446744073709551616) (n : isN x = false) :
    clampB x most = if rk x < -4890909195324358656 then -clampM most else if rk x < 4890909195324358656 then min (max (cq .even x) (-clampM most)) (clampM most) else clampM most := by
  have hm := clampM_nonneg most
  have hk := cOk_rk .even x hx n
  have hg := fgt_zero x hx n
  unfold clampB
  rw [n, if_neg (by decide)]
  by_cases c1 : rk x < -4890909195324358656
  · have o : cOk .even x = false := by rw [hk, decide_eq_false (by omega)]; rfl
    rw [if_pos c1, o, hg, if_neg (by decide), decide_eq_false (by omega), if_neg (by decide)]
  · rw [if_neg c1]
    by_cases c2 : rk x < 4890909195324358656
    · have o : cOk .even x = true := by rw [hk, decide_eq_true (by omega), decide_eq_true c2]; rfl
      rw [if_pos c2, o, if_pos rfl, cI_eq .even x o]
    · have o : cOk .even x = false := by rw [hk, decide_eq_false c2, Bool.and_false]
      rw [if_neg c2, o, hg, if_neg (by decide), decide_eq_true (by omega), if_pos rfl]
theorem clampB_mono (x y : Nat) (most : Int) (hx : x < 18446744073709551616) (hy : y < 18446744073709551616) (nx : isN x = false) (ny : isN y = false) (h : rk x ≤ rk y) : clampB x most ≤ clampB y most := by
  have hm := clampM_nonneg most
  have hc := cq_even_mono ((sv_le_iff x y).2 h)
  rw [clampB_num x most hx nx, clampB_num y most hy ny]
  repeat' split
  all_goals omega

/-- opposites -/
theorem cq_even_neg (x : Nat) (hx : x < 18446744073709551616) : cq .even (negB x) = -cq .even x := by
  unfold cq
  rw [mg_negB, ng_negB x hx, cutq_even, cutq_even]
  cases ng x <;> simp
theorem clampB_neg (x : Nat) (most : Int) (hx : x < 18446744073709551616) (n : isN x = false) (hmx : most ≤ 9223372036854775807) : clampB x most = -clampB (negB x) most := by
  have hm := clampM_nonneg most
  have hm2 : clampM most ≤ 9223372036854775807 := by unfold clampM; split <;> omega
  have hc := cq_even_neg x hx
  have hr := rk_negB x hx
  have o := onep
  rw [clampB_num x most hx n, clampB_num _ most (negB_lt hx) (by rw [isN_neg]; exact n), hc, hr]
  by_cases c : rk x = -4890909195324358656 ∨ rk x = 4890909195324358656
  · have key : ∀ z : Nat, z < 18446744073709551616 → rk z = -4890909195324358656 → cq .even z = -9223372036854775808 := by
      intro z hz hr
      have e := word_rk z 14114281232179134464 hz (by decide) (by rw [hr]; decide) (by rw [hr]; decide)
      subst e
      have w := wOk_itV .even 14114281232179134464 (by decide) (by decide)
      have hs := sv_itV .even 14114281232179134464 (by decide) (by decide)
      obtain ⟨q, hq⟩ := whole_great (mg 14114281232179134464) (by decide)
      have he : cq .even 14114281232179134464 * one = -9223372036854775808 * one := by
        rw [← sv_n63]
        have e1 := (itV_fin .even 14114281232179134464 (by decide) (by decide)).2.2
        unfold cq sv
        have hn : ng 14114281232179134464 = true := by decide
        rw [hn, if_pos rfl, if_pos rfl, hq, cutq_mul _ _ _ _ one_pos, Int.natCast_mul, Int.neg_mul]
      exact Int.eq_of_mul_eq_mul_right (by omega) he
    rcases c with c | c
    · have := key x hx c
      rw [c, this]
      simp only [Int.neg_neg]
      rw [if_neg (by decide), if_pos (by decide), if_neg (by decide), if_neg (by decide)]
      omega
    · have h2 := key (negB x) (negB_lt hx) (by rw [hr, c])
      rw [hc] at h2
      rw [c]
      rw [if_neg (by decide), if_neg (by decide), if_neg (by decide), if_pos (by decide)]
      omega
  · repeat' split
    all_goals omega

/-- a function of magnitudes that keeps order, with the sign -/
theorem sgn_mono (φ : Nat → Nat) (mono : ∀ a b, a ≤ b → φ a ≤ φ b) (z : φ 0 = 0) (x y : Nat) (h : rk x ≤ rk y) :
    (if ng x then -(φ (mg x) : Int) else (φ (mg x) : Int)) ≤ (if ng y then -(φ (mg y) : Int) else (φ (mg y) : Int)) := by
  unfold rk at h
  have m1 := mono (mg x) (mg y)
  have m2 := mono (mg y) (mg x)
  cases hx : ng x <;> cases hy : ng y <;> rw [hx, hy] at h <;> simp only [Bool.false_eq_true, if_false, if_true] at h ⊢
  · have := m1 (by omega); omega
  · have e1 : mg x = 0 := by omega
    have e2 : mg y = 0 := by omega
    rw [e1, e2, z]; simp
  · omega
  · have := m2 (by omega); omega

/-- over 32 bits and back -/
def E32 (r : Nat) : Nat := if r = 2139095040 then 9218868437227405312 else D32 r
def E16 (r : Nat) : Nat := if r = 31744 then 9218868437227405312 else D16 r
theorem E32_le (r : Nat) (h : r ≤ 2139095040) : E32 r ≤ 9218868437227405312 := by
  unfold E32
  by_cases c : r = 2139095040
  · rw [if_pos c]; exact Nat.le_refl _
  · rw [if_neg c]; have := D32_lt r (by omega); omega
theorem E16_le (r : Nat) (h : r ≤ 31744) : E16 r ≤ 9218868437227405312 := by
  unfold E16
  by_cases c : r = 31744
  · rw [if_pos c]; exact Nat.le_refl _
  · rw [if_neg c]; have := D16_lt r (by omega); omega
theorem t32_le (x : Nat) : t32 x ≤ 2139095040 := by unfold t32; omega
theorem t16_le (x : Nat) : t16 x ≤ 31744 := by unfold t16; omega
theorem t32_mg (x y : Nat) (h : mg x = mg y) : t32 x = t32 y := by unfold t32; rw [h]
theorem t16_mg (x y : Nat) (h : mg x = mg y) : t16 x = t16 y := by unfold t16; rw [h]
theorem over32 (x : Nat) (n : isN x = false) : from32B (to32B x) = if ng x then 9223372036854775808 + E32 (t32 x) else E32 (t32 x) := by
  have h := t32_le x
  unfold to32B
  rw [n, if_neg (by decide)]
  unfold from32B
  have hm : mg32 (if ng x = true then 2147483648 + t32 x else t32 x) = t32 x := by
    unfold mg32; cases ng x <;> simp <;> omega
  have hn : ng32 (if ng x = true then 2147483648 + t32 x else t32 x) = ng x := by
    unfold ng32; cases ng x
    · rw [if_neg (by decide)]; exact decide_eq_false (by omega)
    · rw [if_pos rfl]; exact decide_eq_true (by omega)
  rw [hm, hn, if_neg (by omega)]
  rfl
theorem over16 (x : Nat) (n : isN x = false) : from16B (to16B x) = if ng x then 9223372036854775808 + E16 (t16 x) else E16 (t16 x) := by
  have h := t16_le x
  unfold to16B
  rw [n, if_neg (by decide)]
  unfold from16B
  have hm : (if ng x = true then 32768 + t16 x else t16 x) % 32768 = t16 x := by
    cases ng x <;> simp <;> omega
  have hn : ng16 (if ng x = true then 32768 + t16 x else t16 x) = ng x := by
    unfold ng16; cases ng x
    · rw [if_neg (by decide)]; exact decide_eq_false (by omega)
    · rw [if_pos rfl]; exact decide_eq_true (by omega)
  rw [hm, hn, if_neg (by omega)]
  rfl
theorem word_parts (s : Bool) (m : Nat) (h : m ≤ 9218868437227405312) : mg (if s then 9223372036854775808 + m else m) = m ∧ ng (if s then 9223372036854775808 + m else m) = s ∧ isN (if s then 9223372036854775808 + m else m) = false ∧ rk (if s then 9223372036854775808 + m else m) = (if s then -(m : Int) else (m : Int)) ∧ (if s then 9223372036854775808 + m else m) < 18446744073709551616 := by
  have e1 : mg (if s then 9223372036854775808 + m else m) = m := by unfold mg; cases s <;> simp <;> omega
  have e2 : ng (if s then 9223372036854775808 + m else m) = s := by
    cases s
    · rw [if_neg (by decide)]; exact ng_of_lt (by omega)
    · rw [if_pos rfl]; exact ng_of_ge (by omega)
  refine ⟨e1, e2, isN_false.2 (by omega), ?_, ?_⟩
  · unfold rk; rw [e1, e2]
  · cases s <;> simp <;> omega
theorem E32_mono {a b : Nat} (h : a ≤ b) (hb : b ≤ 2139095040) : E32 a ≤ E32 b := by
  unfold E32
  by_cases c : a = 2139095040
  · have : b = 2139095040 := by omega
    rw [if_pos c, if_pos this]; exact Nat.le_refl _
  · rw [if_neg c]
    have l := D32_lt a (by omega)
    by_cases c2 : b = 2139095040
    · rw [if_pos c2]; omega
    · rw [if_neg c2, ← mv_le, mv_D32, mv_D32]
      exact Nat.mul_le_mul_right _ (mag_le.2 h)
theorem E16_mono {a b : Nat} (h : a ≤ b) (hb : b ≤ 31744) : E16 a ≤ E16 b := by
  unfold E16
  by_cases c : a = 31744
  · have : b = 31744 := by omega
    rw [if_pos c, if_pos this]; exact Nat.le_refl _
  · rw [if_neg c]
    have l := D16_lt a (by omega)
    by_cases c2 : b = 31744
    · rw [if_pos c2]; omega
    · rw [if_neg c2, ← mv_le, mv_D16, mv_D16]
      exact Nat.mul_le_mul_right _ (mag_le.2 h)
theorem over32_mono (x y : Nat) (nx : isN x = false) (ny : isN y = false) (h : rk x ≤ rk y) : rk (from32B (to32B x)) ≤ rk (from32B (to32B y)) := by
  rw [over32 x nx, over32 y ny, (word_parts _ _ (E32_le _ (t32_le x))).2.2.2.1, (word_parts _ _ (E32_le _ (t32_le y))).2.2.2.1]
  refine sgn_mono (fun m => E32 (min (rung 23 K2 (mv m)) 2139095040)) ?_ ?_ x y h
  · intro a b hab
    refine E32_mono ?_ (by omega)
    have := rung_mono (p := 23) (d := K2) (by omega) (mv_le.2 hab)
    omega
  · decide +kernel
theorem over16_mono (x y : Nat) (nx : isN x = false) (ny : isN y = false) (h : rk x ≤ rk y) : rk (from16B (to16B x)) ≤ rk (from16B (to16B y)) := by
  rw [over16 x nx, over16 y ny, (word_parts _ _ (E16_le _ (t16_le x))).2.2.2.1, (word_parts _ _ (E16_le _ (t16_le y))).2.2.2.1]
  refine sgn_mono (fun m => E16 (min (rung 10 H2 (mv m)) 31744)) ?_ ?_ x y h
  · intro a b hab
    refine E16_mono ?_ (by omega)
    have := rung_mono (p := 10) (d := H2) (by omega) (mv_le.2 hab)
    omega
  · decide +kernel

/-- over 32 bits to 16: at most one place off -/
theorem twice (x : Nat) (n : isN x = false) : t16 (from32B (to32B x)) ≤ t16 x + 1 ∧ t16 x ≤ t16 (from32B (to32B x)) + 1 := by
  have hw := word_parts (ng x) _ (E32_le _ (t32_le x))
  rw [over32 x n]
  rw [t16_mg _ (E32 (t32 x)) (by rw [hw.1, mg_of_lt (by have := E32_le _ (t32_le x); omega)])]
  by_cases ci : t32 x = 2139095040
  · have e1 : t16 (E32 (t32 x)) = 31744 := by
      unfold E32; rw [if_pos ci]; exact t16_inf _ (by decide)
    have e2 : t16 x = 31744 := by
      refine t16_inf x ?_
      by_cases c : 4679240012837945344 ≤ mg x
      · exact c
      · exfalso
        have h1 : mv (mg x) ≤ mv (D32 1199570944) := by
          rw [mv_le]
          have : (4679240012837945344 : Nat) = D32 1199570944 := by decide +kernel
          omega
        rw [mv_D32] at h1
        have := rung_le (p := 23) (d := K2) (by omega) h1
        unfold t32 at ci
        omega
    rw [e1, e2]; omega
  · have hr : t32 x = rung 23 K2 (mv (mg x)) ∧ rung 23 K2 (mv (mg x)) < 2139095040 := by
      have := t32_le x
      unfold t32 at ci this ⊢
      omega
    have e1 : E32 (t32 x) = D32 (rung 23 K2 (mv (mg x))) := by unfold E32; rw [if_neg ci, hr.1]
    have l1 := D32_lt _ hr.2
    unfold t16
    rw [e1, mg_of_lt (by omega), mv_D32]
    obtain ⟨r0, b1, b2⟩ := floor_ex 10 H2 (mv (mg x))
    have rp : ∀ r, ∃ s, mag 10 r * 2 ^ H2 = mag 23 s * 2 ^ K2 := by
      intro r
      obtain ⟨A, k, hA, e⟩ := mag_form 10 r
      obtain ⟨s, hs⟩ := rep 23 A (k + 125) (by omega)
      refine ⟨s, ?_⟩
      have hh : k + H2 = k + 125 + K2 := by have := H2_eq; have := K2_eq; omega
      rw [hs, e, Nat.mul_assoc, ← Nat.pow_add, hh, Nat.mul_assoc, ← Nat.pow_add]
    obtain ⟨s0, h0⟩ := rp r0
    obtain ⟨s1, h1⟩ := rp (r0 + 1)
    have c1 := rung_floor 10 H2 r0 _ (by omega) b1 b2
    have d1 : s0 ≤ rung 23 K2 (mv (mg x)) := rung_ge (by omega) (by rw [← h0]; exact b1)
    have d2 : rung 23 K2 (mv (mg x)) ≤ s1 := rung_le (by omega) (by rw [← h1]; exact Nat.le_of_lt b2)
    have f1 : mag 10 r0 * 2 ^ H2 ≤ mag 23 (rung 23 K2 (mv (mg x))) * 2 ^ K2 := by rw [h0]; exact Nat.mul_le_mul_right _ (mag_le.2 d1)
    have f2 : mag 23 (rung 23 K2 (mv (mg x))) * 2 ^ K2 ≤ mag 10 (r0 + 1) * 2 ^ H2 := by rw [h1]; exact Nat.mul_le_mul_right _ (mag_le.2 d2)
    have g1 := rung_ge (p := 10) (d := H2) (by omega) f1
    have g2 := rung_le (p := 10) (d := H2) (by omega) f2
    have fin : ∀ p q r0 : Nat, r0 ≤ p → p ≤ r0 + 1 → r0 ≤ q → q ≤ r0 + 1 → min q 31744 ≤ min p 31744 + 1 ∧ min p 31744 ≤ min q 31744 + 1 := by intros; omega
    exact fin _ _ r0 c1.1 c1.2 g1 g2
end Go.Proofs.YtjgbaenihkplpaaDoor

/-
  Whole numbers as floats, and depths: by plain numbers (no program).
-/
namespace Go.Proofs.YtjgbaenihkplpaaDoor
open Tf Ieee
/-- a whole number as a float -/
def fw (n : Int) : Nat := rn false (n * one)
theorem R_one : R one = 4607182418800017408 := (R_mv 4607182418800017408 (by decide)).1
theorem mv_2_63 : mv 4890909195324358656 = 9223372036854775808 * one := by
  have h := mv_from_one 63 4890909195324358656 (by decide)
  have e : (2 : Nat) ^ 63 = 9223372036854775808 := by decide
  rw [e] at h
  exact h
theorem R_max : R (9223372036854775808 * one) = 4890909195324358656 := by
  have h := (R_mv 4890909195324358656 (by decide)).1
  rw [mv_2_63, Int.natCast_mul] at h
  exact h
theorem rn_nn {v : Int} (h : 0 ≤ v) : rn false v = (R v).toNat := by
  unfold rn R
  generalize min (rung 52 0 v.natAbs) 9218868437227405312 = m
  by_cases z : v = 0
  · rw [if_pos z, if_neg (by decide), if_neg (by omega), Int.toNat_natCast]
  · rw [if_neg z, decide_eq_false (by omega), if_neg (by decide), if_neg (by omega), Int.toNat_natCast]
theorem fw_R {n : Int} (h : 0 ≤ n) : fw n = (R (n * one)).toNat := rn_nn (Int.mul_nonneg h (Int.le_of_lt onep))
theorem fw_in {n : Int} (h1 : 1 ≤ n) (h2 : n ≤ 9223372036854775807) : 4607182418800017408 ≤ fw n ∧ fw n ≤ 4890909195324358656 := by
  have a := R_mono (Int.mul_le_mul_of_nonneg_right h1 (Int.le_of_lt onep))
  have b := R_mono (Int.mul_le_mul_of_nonneg_right (show n ≤ 9223372036854775808 by omega) (Int.le_of_lt onep))
  rw [Int.one_mul, R_one] at a
  rw [R_max] at b
  rw [fw_R (by omega)]
  omega
theorem fw_mono {n m : Int} (h0 : 0 ≤ n) (h : n ≤ m) : fw n ≤ fw m := by
  have a := R_mono (Int.mul_le_mul_of_nonneg_right h (Int.le_of_lt onep))
  rw [fw_R h0, fw_R (by omega)]
  omega
theorem fw_Qn {n m : Int} (n1 : 1 ≤ n) (n2 : n ≤ 9223372036854775807) (m1 : 1 ≤ m) (m2 : m ≤ 9223372036854775807) : Qn (fw n) (fw m) := by
  have a := fw_in n1 n2
  have b := fw_in m1 m2
  unfold Qn
  omega
/-- the depth -/
def dpB (w a : Int) : Nat := if w < 1 ∨ a < 1 then 0 else dvB (fw w) (fw a)
theorem dp_zero {w a : Int} (h : w < 1 ∨ a < 1) : dpB w a = 0 := by unfold dpB; rw [if_pos h]
theorem dp_of {w a : Int} (h1 : 1 ≤ w) (h2 : 1 ≤ a) : dpB w a = dvB (fw w) (fw a) := by unfold dpB; rw [if_neg (by omega)]
theorem dp_in {w a : Int} (h1 : 1 ≤ w) (h2 : 1 ≤ a) (w2 : w ≤ 9223372036854775807) (a2 : a ≤ 9223372036854775807) : 4503599627370496 ≤ dpB w a ∧ dpB w a ≤ 9146810843189477376 := by
  rw [dp_of h1 h2]
  exact dq_in (fw_Qn h1 w2 h2 a2)
theorem dp_le {w a : Int} (w2 : w ≤ 9223372036854775807) (a2 : a ≤ 9223372036854775807) : dpB w a ≤ 9146810843189477376 := by
  by_cases h : w < 1 ∨ a < 1
  · rw [dp_zero h]; omega
  · exact (dp_in (by omega) (by omega) w2 a2).2
theorem dp_mono {w w' a : Int} (h : w ≤ w') (w2 : w' ≤ 9223372036854775807) (a2 : a ≤ 9223372036854775807) : dpB w a ≤ dpB w' a := by
  by_cases c : w < 1 ∨ a < 1
  · rw [dp_zero c]; omega
  · rw [dp_of (by omega) (by omega), dp_of (by omega) (by omega)]
    exact dv_mono (fw_Qn (by omega) (by omega) (by omega) a2) (fw_Qn (by omega) w2 (by omega) a2) (fw_mono (by omega) h)
theorem dp_anti {w a a' : Int} (h0 : 1 ≤ a) (h : a ≤ a') (w2 : w ≤ 9223372036854775807) (a2 : a' ≤ 9223372036854775807) : dpB w a' ≤ dpB w a := by
  by_cases c : w < 1
  · rw [dp_zero (.inl c), dp_zero (.inl c)]; omega
  · rw [dp_of (by omega) (by omega), dp_of (by omega) (by omega)]
    exact dv_anti (fw_Qn (by omega) w2 h0 (by omega)) (fw_Qn (by omega) w2 (by omega) a2) (fw_mono (by omega) h)
end Go.Proofs.YtjgbaenihkplpaaDoor
