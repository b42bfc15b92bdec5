/-
  Doubles as floats of 32 bits and back, by plain numbers (no program).
-/
import Derived.Test.YtpncpbpdbdlamaaPv
namespace Go.Proofs.Ytpncpbpdbdlamaa
open Tf

theorem s_sw : Ieee.single.signWeight = 2147483648 := by decide
theorem s_inf : Ieee.single.infRung = 2139095040 := by decide
theorem s_he : Ieee.single.binade ≤ Ieee.single.infRung := by decide
theorem s_fb : Ieee.single.fractionBits = 23 := rfl
theorem s_word (neg : Bool) (r : Nat) : Ieee.single.word neg r = if neg then 2147483648 + r else r := by
  unfold Ieee.Format.word; rw [s_sw]
/-- the places between the least of 32 bits and the least of 64 -/
def K2 : Nat := 925
theorem K2_eq : K2 = 925 := rfl
theorem s_lp : Ieee.single.leastPlace = -(K : Int) + (K2 : Int) := by rw [K_eq, K2_eq]; decide

def mg32 (b : Nat) : Nat := b % 2147483648
def ng32 (b : Nat) : Bool := decide (2147483648 ≤ b)
theorem rg_s (b : Nat) : rg Ieee.single b = mg32 b := by unfold rg mg32; rw [s_sw]
theorem sg_s (b : Nat) (hb : b < 4294967296) : sg Ieee.single b = ng32 b := by
  unfold sg ng32; rw [s_sw]
  by_cases h : 2147483648 ≤ b
  · have : b / 2147483648 = 1 := by omega
    rw [this]; simp [h]
  · have : b / 2147483648 = 0 := by omega
    rw [this]; simp [h]

/-- a magnitude is a number of few bits times a power of two -/
theorem mag_form (p r : Nat) : ∃ A k, A ≤ 2 ^ (p + 1) ∧ mag p r = A * 2 ^ k := by
  have hp := pow_pos p
  have hp1 : 2 ^ (p + 1) = 2 * 2 ^ p := by rw [Nat.pow_succ]; omega
  unfold mag
  by_cases h : r < 2 ^ p
  · exact ⟨r, 0, by omega, by rw [if_pos h]; omega⟩
  · refine ⟨2 ^ p + r % 2 ^ p, r / 2 ^ p - 1, ?_, by rw [if_neg h]⟩
    have := Nat.mod_lt r hp
    omega
theorem mag_double (p c r : Nat) (hp : p ≤ 52) : ∃ R, mv R = mag p r * 2 ^ c := by
  obtain ⟨A, k, hA, e⟩ := mag_form p r
  have h1 : 2 ^ (p + 1) ≤ 2 ^ (52 + 1) := Nat.pow_le_pow_right (by omega) (by omega)
  obtain ⟨R, hR⟩ := rep 52 A (k + c) (by omega)
  exact ⟨R, by rw [e, Nat.mul_assoc, ← Nat.pow_add]; exact hR⟩
theorem mag_binade (p e : Nat) : mag p ((e + 1) * 2 ^ p) = 2 ^ (p + e) := by
  have hp := pow_pos p
  have : 1 * 2 ^ p ≤ (e + 1) * 2 ^ p := Nat.mul_le_mul_right _ (by omega)
  unfold mag
  rw [if_neg (by omega), Nat.mul_mod_left, Nat.mul_div_cancel _ hp, Nat.add_zero, ← Nat.pow_add]
  rfl

/-- the double that a magnitude of 32 bits is -/
def D32 (r : Nat) : Nat := rung 52 0 (mag 23 r * 2 ^ K2)
theorem mv_D32 (r : Nat) : mv (D32 r) = mag 23 r * 2 ^ K2 := by
  obtain ⟨R, e⟩ := mag_double 23 K2 r (by omega)
  unfold D32
  rw [← e, rung_mv]
theorem scale_one (a c k : Nat) (h : a + c = k + K) : 2 ^ a * 2 ^ c = 2 ^ k * one := by
  rw [one_pow, ← Nat.pow_add, ← Nat.pow_add, h]
theorem mag_top (p e c k R : Nat) (h : p + e + c = k + K) (hR : mv R = 2 ^ k * one) : mag p ((e + 1) * 2 ^ p) * 2 ^ c = mv R := by
  rw [mag_binade, hR, scale_one (p + e) c k h]
theorem D32_inf : mag 23 2139095040 * 2 ^ K2 = mv 5183643171103440896 := by
  have := mag_top 23 254 K2 128 5183643171103440896 (by rw [K_eq, K2_eq]) (mv_from_one 128 _ (by decide))
  rwa [show (254 + 1) * 2 ^ 23 = 2139095040 from by decide] at this
theorem D32_lt (r : Nat) (h : r < 2139095040) : D32 r < 5183643171103440896 := by
  rw [← mv_lt, mv_D32, ← D32_inf]
  exact (Nat.mul_lt_mul_right (pow_pos K2)).2 (mag_lt.2 h)

/-- a double as bits of 32; those bits as a double -/
def t32 (x : Nat) : Nat := min (rung 23 K2 (mv (mg x))) 2139095040
def to32B (x : Nat) : Nat := if isN x then 2143289344 else if ng x then 2147483648 + t32 x else t32 x
def from32B (b : Nat) : Nat :=
  if 2139095040 < mg32 b then quiet else
  let m := if mg32 b = 2139095040 then 9218868437227405312 else D32 (mg32 b)
  if ng32 b then 9223372036854775808 + m else m

theorem enc32 (x : Nat) (hx : x < 18446744073709551616) (m a : Nat) (v : m * 2 ^ a = mv (mg x)) :
    Ieee.single.write (.number (sg Ieee.double x) m (Ieee.double.leastPlace + a)) = if ng x then 2147483648 + t32 x else t32 x := by
  simp only [Ieee.Format.write]
  rw [← nearest_scale, v]
  have h := nearest_rung Ieee.single (sg Ieee.double x) (mv (mg x)) K2
  rw [show Ieee.single.leastPlace - (K2 : Int) = Ieee.double.leastPlace by rw [s_lp, lp_K]; omega] at h
  rw [h, s_word, s_inf, s_fb, sg_d x hx]
  rfl

theorem conv32_fin (x : Nat) (hx : x < 18446744073709551616) (fx : mg x < 9218868437227405312) (ht : t32 x < 2139095040) : floatToFloatBits .f64 x .f32 = some (if ng x then 2147483648 + t32 x else t32 x) := by
  have ei := d_inf
  obtain ⟨m, a, e, v⟩ := read_fin Ieee.double x (by rw [rg_d]; omega)
  rw [rg_d] at v
  have he := enc32 x hx m a v
  unfold floatToFloatBits
  rw [if_neg (by decide)]
  have e' : FloatKind.f64.decode x = .number (sg Ieee.double x) m (Ieee.double.leastPlace + a) := e
  rw [e']
  have he' : FloatKind.f32.encode (.number (sg Ieee.double x) m (Ieee.double.leastPlace + a)) = if ng x then 2147483648 + t32 x else t32 x := he
  simp only [he']
  have hr : rg Ieee.single (if ng x then 2147483648 + t32 x else t32 x) = t32 x := by
    rw [rg_s]; unfold mg32; cases ng x <;> simp <;> omega
  obtain ⟨m', a', e2, _⟩ := read_fin Ieee.single (if ng x then 2147483648 + t32 x else t32 x) (by rw [hr, s_inf]; exact ht)
  have e2' : FloatKind.f32.decode (if ng x then 2147483648 + t32 x else t32 x) = _ := e2
  rw [e2']
  rfl
theorem conv32_inf (x : Nat) (hx : x < 18446744073709551616) (fx : mg x = 9218868437227405312) : floatToFloatBits .f64 x .f32 = some (if ng x then 2147483648 + 2139095040 else 2139095040) := by
  have ei := d_inf
  have e := read_inf Ieee.double x d_he (by rw [rg_d]; omega)
  unfold floatToFloatBits
  rw [if_neg (by decide)]
  have e' : FloatKind.f64.decode x = .infinity (sg Ieee.double x) := e
  rw [e']
  show some (Ieee.single.word (sg Ieee.double x) Ieee.single.infRung) = _
  rw [s_word, s_inf, sg_d x hx]
theorem t32_inf (x : Nat) (fx : 5183643171103440896 ≤ mg x) : t32 x = 2139095040 := by
  have h : mag 23 2139095040 * 2 ^ K2 ≤ mv (mg x) := by rw [D32_inf]; exact mv_le.2 fx
  have := rung_ge (p := 23) (d := K2) (by omega) h
  unfold t32; omega

theorem conv64_fin (b : Nat) (hb : b < 4294967296) (fb : mg32 b < 2139095040) : floatToFloatBits .f32 b .f64 = some (if ng32 b then 9223372036854775808 + D32 (mg32 b) else D32 (mg32 b)) := by
  have ei := s_inf
  have hl := D32_lt (mg32 b) fb
  obtain ⟨m, a, e, v⟩ := read_fin Ieee.single b (by rw [rg_s]; omega)
  rw [rg_s] at v
  have he : Ieee.double.write (.number (sg Ieee.single b) m (Ieee.single.leastPlace + a)) = if ng32 b then 9223372036854775808 + D32 (mg32 b) else D32 (mg32 b) := by
    simp only [Ieee.Format.write]
    rw [nearest_up Ieee.double _ m (K2 + a) _ (by rw [s_lp, lp_K]; omega), d_word, d_inf, d_fb, sg_s b hb]
    have : m * 2 ^ (K2 + a) = mag 23 (mg32 b) * 2 ^ K2 := by
      rw [← s_fb, ← v, Nat.mul_assoc, ← Nat.pow_add, Nat.add_comm K2 a]
    rw [this]
    change (if ng32 b = true then 9223372036854775808 + min (D32 (mg32 b)) 9218868437227405312 else min (D32 (mg32 b)) 9218868437227405312) = _
    rw [Nat.min_eq_left (by omega)]
  unfold floatToFloatBits
  rw [if_neg (by decide)]
  have e' : FloatKind.f32.decode b = .number (sg Ieee.single b) m (Ieee.single.leastPlace + a) := e
  rw [e']
  have he' : FloatKind.f64.encode (.number (sg Ieee.single b) m (Ieee.single.leastPlace + a)) = if ng32 b then 9223372036854775808 + D32 (mg32 b) else D32 (mg32 b) := he
  simp only [he']
  have hr : mg (if ng32 b then 9223372036854775808 + D32 (mg32 b) else D32 (mg32 b)) = D32 (mg32 b) := by
    generalize D32 (mg32 b) = y at *
    unfold mg; cases ng32 b <;> simp <;> omega
  obtain ⟨m', a', e2, _⟩ := read_fin Ieee.double (if ng32 b then 9223372036854775808 + D32 (mg32 b) else D32 (mg32 b)) (by rw [rg_d, hr, d_inf]; omega)
  have e2' : FloatKind.f64.decode (if ng32 b then 9223372036854775808 + D32 (mg32 b) else D32 (mg32 b)) = _ := e2
  rw [e2']
  rfl
theorem conv64_inf (b : Nat) (hb : b < 4294967296) (fb : mg32 b = 2139095040) : floatToFloatBits .f32 b .f64 = some (if ng32 b then 9223372036854775808 + 9218868437227405312 else 9218868437227405312) := by
  have ei := s_inf
  have e := read_inf Ieee.single b s_he (by rw [rg_s]; omega)
  unfold floatToFloatBits
  rw [if_neg (by decide)]
  have e' : FloatKind.f32.decode b = .infinity (sg Ieee.single b) := e
  rw [e']
  show some (Ieee.double.word (sg Ieee.single b) Ieee.double.infRung) = _
  rw [d_word, d_inf, sg_s b hb]

/-- the bits of a NaN's conversion are drawn -/
def nanC (w : World) (b : Nat) : Nat := (Question.nanConv .f64 b).cut (w.tape w.drawn (.nanConv .f64 b))
theorem nanC_nan (w : World) (b : Nat) : nanC w b < 18446744073709551616 ∧ isN (nanC w b) = true := by
  unfold nanC
  generalize w.tape w.drawn (.nanConv .f64 b) = t
  show (t % 2) * 2 ^ 63 + 0x7ff0000000000000 + 1 + (t / 2) % (2 ^ 52 - 1) < _ ∧ isN ((t % 2) * 2 ^ 63 + 0x7ff0000000000000 + 1 + (t / 2) % (2 ^ 52 - 1)) = true
  have hb : t / 2 % (2 ^ 52 - 1) < 2 ^ 52 - 1 := Nat.mod_lt _ (by decide)
  generalize t / 2 % (2 ^ 52 - 1) = c at *
  have ha : t % 2 = 0 ∨ t % 2 = 1 := by omega
  rw [isN_true]
  unfold mg
  rcases ha with h | h <;> rw [h] <;> constructor <;> omega
theorem run_conv_nan {P : Program} (w : World) (src dst : TypeId) (b : Nat) (hs : (P.underlying src).isSome = true) (hd : P.underlying dst = some (.float .f64)) (n : 2139095040 < mg32 b) :
    (convert src dst (.float .f32 b)).run P w = .ok (.float .f64 (nanC w b)) w.drew := by
  have ei := s_inf
  obtain ⟨u, hs'⟩ := Option.isSome_iff_exists.1 hs
  have e := read_nan Ieee.single b s_he (by rw [rg_s]; omega)
  have e' : FloatKind.f32.decode b = .nan (sg Ieee.single b) (rg Ieee.single b - Ieee.single.infRung) := e
  cases u <;> simp [convert, run_underlying hs', run_underlying hd, Conv.floatToFloat, e', Question.forced, nanC]

theorem to32B_lt (x : Nat) : to32B x < 4294967296 := by
  unfold to32B t32
  generalize rung 23 K2 (mv (mg x)) = r
  repeat' split
  all_goals omega
theorem from32B_lt (b : Nat) : from32B b < 18446744073709551616 := by
  unfold from32B
  have hq := quiet_lt
  by_cases c : 2139095040 < mg32 b
  · rw [if_pos c]; exact hq
  · rw [if_neg c]
    by_cases c2 : mg32 b = 2139095040
    · simp only [if_pos c2]; split <;> omega
    · have := D32_lt (mg32 b) (by omega)
      simp only [if_neg c2]
      generalize D32 (mg32 b) = y at *
      split <;> omega

/-- there and back -/
theorem back32 (b : Nat) (hb : b < 4294967296) (h : mg32 b ≤ 2139095040) : to32B (from32B b) = b := by
  have hw : b = if ng32 b then 2147483648 + mg32 b else mg32 b := by
    unfold ng32 mg32
    by_cases c : 2147483648 ≤ b
    · rw [decide_eq_true c, if_pos rfl]; omega
    · rw [decide_eq_false c, if_neg (by decide)]; omega
  have key : ∀ m, m ≤ 9218868437227405312 → min (rung 23 K2 (mv m)) 2139095040 = mg32 b → to32B (if ng32 b then 9223372036854775808 + m else m) = b := by
    intro m hm e
    have h1 : mg (if ng32 b then 9223372036854775808 + m else m) = m := by
      unfold mg; cases ng32 b <;> simp <;> omega
    have h2 : ng (if ng32 b then 9223372036854775808 + m else m) = ng32 b := by
      cases ng32 b
      · simp only [Bool.false_eq_true, if_false]; exact ng_of_lt (by omega)
      · simp only [if_true]; exact ng_of_ge (by omega)
    have h3 : isN (if ng32 b then 9223372036854775808 + m else m) = false := isN_false.2 (by rw [h1]; exact hm)
    unfold to32B t32
    rw [h3, h1, h2, e, if_neg (by decide)]
    exact hw.symm
  unfold from32B
  rw [if_neg (by omega)]
  by_cases c : mg32 b = 2139095040
  · simp only [if_pos c]
    refine key _ (by omega) ?_
    have := t32_inf 9218868437227405312 (by decide)
    unfold t32 at this
    rw [c]; exact this
  · simp only [if_neg c]
    have hl := D32_lt (mg32 b) (by omega)
    refine key _ (by omega) ?_
    rw [mv_D32, rung_mag 23 K2 _ (by omega)]; omega
end Go.Proofs.Ytpncpbpdbdlamaa
