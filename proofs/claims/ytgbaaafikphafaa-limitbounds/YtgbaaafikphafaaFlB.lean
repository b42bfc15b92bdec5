/-
  What the words of a binary format are worth, and its sums, products and comparisons in whole units (no program).
-/
import Derived.Test.YtgbaaafikphafaaFlA
namespace Go.Proofs.Ytgbaaafikphafaa.Tf
open Ieee

theorem log2_mul_pow (m c : Nat) (hm : m ≠ 0) : (m * 2 ^ c).log2 = m.log2 + c := by
  have h1 := Nat.log2_self_le hm
  have h2 : m < 2 ^ (m.log2 + 1) := Nat.lt_log2_self
  have hc := pow_pos c
  refine log2_of ?_ ?_
  · rw [Nat.pow_add]; exact Nat.mul_le_mul_right _ h1
  · rw [show m.log2 + c + 1 = (m.log2 + 1) + c from by omega, Nat.pow_add]
    exact (Nat.mul_lt_mul_right hc).2 h2

theorem shl (m c : Nat) : m <<< c = m * 2 ^ c := Nat.shiftLeft_eq ..

/-- a magnitude times a power of two, at a place that much lower, is the same number -/
theorem nearest_scale (f : Format) (neg : Bool) (m c : Nat) (place : Int) : f.nearest neg (m * 2 ^ c) place = f.nearest neg m (place + c) := by
  by_cases hm : m = 0
  · subst hm; simp [Format.nearest]
  · have hc := pow_pos c
    have hmc : m * 2 ^ c ≠ 0 := Nat.mul_ne_zero hm (by omega)
    unfold Format.nearest
    rw [if_neg hm, if_neg hmc, log2_mul_pow m c hm]
    have el : max (place + ((m.log2 + c : Nat) : Int) - f.fractionBits) f.leastPlace = max (place + c + (m.log2 : Nat) - f.fractionBits) f.leastPlace := by
      congr 1; omega
    simp only [el, cut_even, shl]
    generalize max (place + (c : Int) + (m.log2 : Nat) - (f.fractionBits : Int)) f.leastPlace = last
    congr 3
    by_cases h1 : 0 ≤ place - last
    · have a1 : (last - place).toNat = 0 := by omega
      have a2 : (last - (place + c)).toNat = 0 := by omega
      have a3 : (place + c - last).toNat = c + (place - last).toNat := by omega
      rw [a1, a2, a3, Nat.pow_zero, rne_one, rne_one, Nat.pow_add, Nat.mul_assoc]
    · have b1 : (place - last).toNat = 0 := by omega
      rw [b1, Nat.pow_zero, Nat.mul_one]
      by_cases h2 : 0 ≤ place + c - last
      · have a2 : (last - (place + c)).toNat = 0 := by omega
        have a3 : c = (place + c - last).toNat + (last - place).toNat := by omega
        rw [a2, Nat.pow_zero, rne_one]
        rw (occs := .pos [1]) [a3]
        rw [Nat.pow_add, ← Nat.mul_assoc, rne_mul _ _ (pow_pos _)]
      · have a2 : (place + c - last).toNat = 0 := by omega
        have a3 : (last - place).toNat = (last - (place + c)).toNat + c := by omega
        rw [a2, Nat.pow_zero, Nat.mul_one, a3, Nat.pow_add, rne_scale _ _ _ hc]

/-- the nearest word, by rungs: d places below the least one -/
theorem nearest_rung (f : Format) (neg : Bool) (m d : Nat) : f.nearest neg m (f.leastPlace - d) = f.word neg (min (rung f.fractionBits d m) f.infRung) := by
  unfold Format.nearest
  by_cases hm : m = 0
  · subst hm
    rw [if_pos rfl]
    have : rung f.fractionBits d 0 = 0 := by
      unfold rung
      simp [rne, Nat.zero_mod, Nat.zero_div]
    rw [this, Nat.zero_min]
  · rw [if_neg hm]
    have el : max (f.leastPlace - (d : Int) + (m.log2 : Nat) - (f.fractionBits : Int)) f.leastPlace = f.leastPlace + ((m.log2 - (f.fractionBits + d) : Nat) : Int) := by
      omega
    simp only [el, cut_even, shl]
    have a1 : (f.leastPlace - (d : Int) - (f.leastPlace + ((m.log2 - (f.fractionBits + d) : Nat) : Int))).toNat = 0 := by omega
    have a2 : (f.leastPlace + ((m.log2 - (f.fractionBits + d) : Nat) : Int) - (f.leastPlace - (d : Int))).toNat = m.log2 - (f.fractionBits + d) + d := by omega
    have a3 : (f.leastPlace + ((m.log2 - (f.fractionBits + d) : Nat) : Int) - f.leastPlace).toNat = m.log2 - (f.fractionBits + d) := by omega
    rw [a1, a2, a3, Nat.pow_zero, Nat.mul_one]
    rfl

/-- the sign bit of a word; its rung; is it finite? -/
def sg (f : Format) (x : Nat) : Bool := x / f.signWeight % 2 == 1
def rg (f : Format) (x : Nat) : Nat := x % f.signWeight
/-- its value in units of the least place, where it is finite -/
def sval (f : Format) (x : Nat) : Int := if sg f x then -(mag f.fractionBits (rg f x) : Int) else (mag f.fractionBits (rg f x) : Int)

theorem read_fin (f : Format) (x : Nat) (h : rg f x < f.infRung) : ∃ m a : Nat, f.read x = .number (sg f x) m (f.leastPlace + a) ∧ m * 2 ^ a = mag f.fractionBits (rg f x) := by
  unfold Format.read
  simp only []
  change rg f x < f.infRung at h
  unfold mag
  by_cases c : rg f x < f.binade
  · refine ⟨rg f x, 0, ?_, ?_⟩
    · rw [if_pos (show x % f.signWeight < f.binade from c)]; simp [sg, rg]
    · rw [if_pos (show rg f x < 2 ^ f.fractionBits from c)]; omega
  · refine ⟨f.binade + rg f x % f.binade, rg f x / f.binade - 1, ?_, ?_⟩
    · rw [if_neg (show ¬ x % f.signWeight < f.binade from c), if_pos (show x % f.signWeight < f.infRung from h)]; rfl
    · rw [if_neg (show ¬ rg f x < 2 ^ f.fractionBits from c)]; rfl

theorem read_inf (f : Format) (x : Nat) (he : f.binade ≤ f.infRung) (h : rg f x = f.infRung) : f.read x = .infinity (sg f x) := by
  unfold Format.read
  simp only []
  unfold rg at h
  rw [if_neg (by omega), if_neg (by omega), if_pos h]; rfl

theorem read_nan (f : Format) (x : Nat) (he : f.binade ≤ f.infRung) (h : f.infRung < rg f x) : f.read x = .nan (sg f x) (rg f x - f.infRung) := by
  unfold Format.read
  simp only []
  unfold rg at h
  rw [if_neg (by omega), if_neg (by omega), if_neg (by omega)]; rfl

/-- a NaN -/
def nan (f : Format) (x : Nat) : Prop := f.infRung < rg f x

theorem order_nan_left (f : Format) (x y : Nat) (he : f.binade ≤ f.infRung) (h : f.infRung < rg f x) : f.order x y = none := by
  unfold Format.order; rw [read_nan f x he h]; rfl
theorem order_nan_right (f : Format) (x y : Nat) (he : f.binade ≤ f.infRung) (h : f.infRung < rg f y) : f.order x y = none := by
  unfold Format.order; rw [read_nan f y he h]; cases f.read x <;> rfl

theorem signed_mul (s : Bool) (m a : Nat) (c : Nat) : Ieee.signed s m a * (2 ^ c : Nat) = Ieee.signed s (m * 2 ^ a) c := by
  unfold Ieee.signed
  simp only [shl]
  cases s
  · simp
  · simp [Int.neg_mul]

theorem signed_at (s : Bool) (m a b : Nat) (h : b ≤ a) : Ieee.signed s m (a - b) * ((2 ^ b : Nat) : Int) = if s then -((m * 2 ^ a : Nat) : Int) else ((m * 2 ^ a : Nat) : Int) := by
  rw [signed_mul]
  unfold Ieee.signed
  simp only [shl]
  have e : m * 2 ^ (a - b) * 2 ^ b = m * 2 ^ a := by
    rw [Nat.mul_assoc, ← Nat.pow_add, Nat.sub_add_cancel h]
  rw [e]

theorem compare_mul (a b c : Int) (hc : 0 < c) : compare (a * c) (b * c) = compare a b := by
  have h1 : a * c < b * c ↔ a < b := Int.mul_lt_mul_right hc
  have h2 : b * c < a * c ↔ b < a := Int.mul_lt_mul_right hc
  have h3 : a * c = b * c ↔ a = b := by omega
  simp only [compare, compareOfLessAndEq, h1, h3]

theorem order_fin (f : Format) (x y : Nat) (hx : rg f x < f.infRung) (hy : rg f y < f.infRung) : f.order x y = some (compare (sval f x) (sval f y)) := by
  obtain ⟨m, a, e1, v1⟩ := read_fin f x hx
  obtain ⟨n, b, e2, v2⟩ := read_fin f y hy
  unfold Format.order
  rw [e1, e2]
  simp only [Datum.order]
  have eb : min (f.leastPlace + (a : Int)) (f.leastPlace + (b : Int)) = f.leastPlace + ((min a b : Nat) : Int) := by omega
  rw [eb]
  have t1 : (f.leastPlace + (a : Int) - (f.leastPlace + ((min a b : Nat) : Int))).toNat = a - min a b := by omega
  have t2 : (f.leastPlace + (b : Int) - (f.leastPlace + ((min a b : Nat) : Int))).toNat = b - min a b := by omega
  rw [t1, t2]
  rw [← compare_mul _ _ ((2 ^ (min a b) : Nat) : Int) (by exact_mod_cast pow_pos _)]
  rw [signed_at _ _ _ _ (Nat.min_le_left a b), signed_at _ _ _ _ (Nat.min_le_right a b), v1, v2]
  rfl

/-- a whole number of units, rounded to a word; 'z': the sign of nothing -/
def rnd (f : Format) (z : Bool) (v : Int) : Nat := f.word (if v = 0 then z else decide (v < 0)) (min (rung f.fractionBits 0 v.natAbs) f.infRung)

theorem sum_fin (f : Format) (s t : Bool) (m n a b : Nat) :
    ((Datum.number s m (f.leastPlace + a)).sum (.number t n (f.leastPlace + b))).map f.write
      = some (rnd f (s && t) ((if s then -((m * 2 ^ a : Nat) : Int) else ((m * 2 ^ a : Nat) : Int)) + (if t then -((n * 2 ^ b : Nat) : Int) else ((n * 2 ^ b : Nat) : Int)))) := by
  simp only [Datum.sum, Option.map, Format.write]
  have eb : min (f.leastPlace + (a : Int)) (f.leastPlace + (b : Int)) = f.leastPlace + ((min a b : Nat) : Int) := by omega
  rw [eb]
  have t1 : (f.leastPlace + (a : Int) - (f.leastPlace + ((min a b : Nat) : Int))).toNat = a - min a b := by omega
  have t2 : (f.leastPlace + (b : Int) - (f.leastPlace + ((min a b : Nat) : Int))).toNat = b - min a b := by omega
  rw [t1, t2]
  have hv : (Ieee.signed s m (a - min a b) + Ieee.signed t n (b - min a b)) * ((2 ^ (min a b) : Nat) : Int) = (if s then -((m * 2 ^ a : Nat) : Int) else ((m * 2 ^ a : Nat) : Int)) + (if t then -((n * 2 ^ b : Nat) : Int) else ((n * 2 ^ b : Nat) : Int)) := by
    rw [Int.add_mul, signed_at _ _ _ _ (Nat.min_le_left a b), signed_at _ _ _ _ (Nat.min_le_right a b)]
  rw [← hv]
  generalize Ieee.signed s m (a - min a b) + Ieee.signed t n (b - min a b) = total
  generalize min a b = c
  have hc : (0 : Int) < ((2 ^ c : Nat) : Int) := by exact_mod_cast pow_pos c
  unfold rnd
  have n1 : (total * ((2 ^ c : Nat) : Int)).natAbs = total.natAbs * 2 ^ c := by rw [Int.natAbs_mul, Int.natAbs_natCast]
  have n2 : total * ((2 ^ c : Nat) : Int) = 0 ↔ total = 0 := by
    rw [Int.mul_eq_zero]; omega
  have n3 : total * ((2 ^ c : Nat) : Int) < 0 ↔ total < 0 := by
    have : total * ((2 ^ c : Nat) : Int) < 0 * ((2 ^ c : Nat) : Int) ↔ total < 0 := Int.mul_lt_mul_right hc
    rw [Int.zero_mul] at this; exact this
  rw [n1]
  simp only [n2, n3]
  rw [← nearest_scale]
  have := nearest_rung f (if total = 0 then s && t else decide (total < 0)) (total.natAbs * 2 ^ c) 0
  rw [show f.leastPlace - ((0 : Nat) : Int) = f.leastPlace from by omega] at this
  rw [this]

theorem add_fin (f : Format) (x y : Nat) (hx : rg f x < f.infRung) (hy : rg f y < f.infRung) : f.add x y = some (rnd f (sg f x && sg f y) (sval f x + sval f y)) := by
  obtain ⟨m, a, e1, v1⟩ := read_fin f x hx
  obtain ⟨n, b, e2, v2⟩ := read_fin f y hy
  unfold Format.add
  rw [e1, e2, sum_fin, v1, v2]
  rfl

theorem sub_fin (f : Format) (x y : Nat) (hx : rg f x < f.infRung) (hy : rg f y < f.infRung) : f.sub x y = some (rnd f (sg f x && !sg f y) (sval f x - sval f y)) := by
  obtain ⟨m, a, e1, v1⟩ := read_fin f x hx
  obtain ⟨n, b, e2, v2⟩ := read_fin f y hy
  unfold Format.sub
  rw [e1, e2]
  simp only [Datum.opposite]
  rw [sum_fin, v1, v2]
  unfold sval
  congr 2
  cases sg f y <;> simp [Int.sub_eq_add_neg]

/-- a product: of the magnitudes' product, so many places below the least one -/
theorem mul_fin (f : Format) (x y d : Nat) (hd : f.leastPlace = -(d : Int)) (hx : rg f x < f.infRung) (hy : rg f y < f.infRung) :
    f.mul x y = some (f.word (sg f x ^^ sg f y) (min (rung f.fractionBits d (mag f.fractionBits (rg f x) * mag f.fractionBits (rg f y))) f.infRung)) := by
  obtain ⟨m, a, e1, v1⟩ := read_fin f x hx
  obtain ⟨n, b, e2, v2⟩ := read_fin f y hy
  unfold Format.mul
  rw [e1, e2]
  simp only [Datum.product, Option.map, Format.write]
  rw [← nearest_rung, ← v1, ← v2]
  have e : m * 2 ^ a * (n * 2 ^ b) = m * n * 2 ^ (a + b) := by
    rw [Nat.pow_add]; simp only [Nat.mul_assoc, Nat.mul_left_comm]
  rw [e, nearest_scale]
  congr 2
  omega

end Go.Proofs.Ytgbaaafikphafaa.Tf
