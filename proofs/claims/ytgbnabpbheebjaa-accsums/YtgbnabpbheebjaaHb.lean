/-
  Numbers and their opposites, by plain numbers.
-/
import Derived.Test.YtgbnabpbheebjaaHa
namespace Go.Proofs.Ytgbnabpbheebjaa
open Go.RowKit Tf

/-- sums so far -/
def partS (d : Nat → Int) : Nat → Int
  | 0 => 0
  | k + 1 => partS d k + d k
/-- what is there beside the first number, in the first turn and in the second -/
def turnV (d : Nat → Int) (len t i : Nat) : Int := if t = 0 then partS d i else if t = 1 then partS d len - partS d i else 0
theorem turnV_zero (d : Nat → Int) (len : Nat) : turnV d len 0 0 = 0 := rfl
theorem turnV_two (d : Nat → Int) (len : Nat) : turnV d len 2 0 = 0 := rfl
theorem turnV_up (d : Nat → Int) (len i : Nat) : turnV d len 0 (i + 1) = turnV d len 0 i + d i := rfl
theorem turnV_down (d : Nat → Int) (len i : Nat) : turnV d len 1 (i + 1) = turnV d len 1 i - d i := by
  show partS d len - (partS d i + d i) = partS d len - partS d i - d i
  omega
theorem turnV_flat (d : Nat → Int) (len t i : Nat) (h : d i = 0) : turnV d len t (i + 1) = turnV d len t i := by
  unfold turnV
  show (if t = 0 then partS d i + d i else if t = 1 then partS d len - (partS d i + d i) else 0) = _
  rw [h, Int.add_zero]
theorem turnV_next (d : Nat → Int) (len t : Nat) (h : t < 2) : turnV d len (t + 1) 0 = turnV d len t len := by
  have : t = 0 ∨ t = 1 := by omega
  rcases this with rfl | rfl
  · show partS d len - 0 = partS d len; omega
  · show 0 = partS d len - partS d len; omega
def canY (len2 : Nat) (ys : Nat → Nat) (i : Nat) : Nat := if i < len2 then ys i else ONE
def canD (len2 : Nat) (xs ys : Nat → Nat) (i : Nat) : Int := if mg (xs i) < 9218868437227405312 ∧ mg (canY len2 ys i) < 9218868437227405312 then sv (xs i) * ((2 ^ K : Nat) : Int) + sv (xs i) * sv (canY len2 ys i) else 0

/-- a sum of finite numbers, not all of them -0 -/
structure CI (V : Int) (m : Nat) (S : AS) : Prop where
  p : S.p = false
  q : S.q = false
  r : S.r = false
  n1 : S.n < S.c
  c1 : S.c ≤ m
  v : S.V = V
  good : Good S
theorem CI.val {V : Int} {m : Nat} {S : AS} (h : CI V m S) : valB S = canonB (rv V) := by
  unfold valB
  rw [h.p, h.q, h.r, h.v, if_neg (by decide), if_neg (by decide), if_neg (by decide), if_neg (by have := h.n1; omega)]
theorem CI.plus {V u b : Int} {m : Nat} {S U : AS} (h : CI V m S) (hU : U = ⟨1, b, u, false, false, false⟩) (hb : b ≤ 1) (g : Good (plusS S U)) : CI (V + u) (m + 1) (plusS S U) := by
  subst hU
  have h1 := h.n1; have h2 := h.c1
  exact ⟨by simp [plusS, h.p], by simp [plusS, h.q], by simp [plusS, h.r], by simp only [plusS]; omega, by simp only [plusS]; omega, by simp only [plusS]; rw [h.v], g⟩
theorem CI.more {V : Int} {m m' : Nat} {S : AS} (h : CI V m S) (hm : m ≤ m') : CI V m' S := ⟨h.p, h.q, h.r, h.n1, by have := h.c1; omega, h.v, h.good⟩
theorem CI.addA {V : Int} {m : Nat} {S : AS} (h : CI V m S) (x : Nat) (fx : mg x < 9218868437227405312) (hm : m + 1 ≤ 1048576) : CI (V + sv x * ((2 ^ K : Nat) : Int)) (m + 1) (stepA S x) := by
  have g := stepP_good h.good x ONE (by have := h.c1; omega)
  have e : stepA S x = plusS S (unitA x) := stepA_plus S x
  rw [e]
  refine h.plus (unitA_fin x fx) (by split <;> omega) ?_
  rw [← e]; exact g
theorem CI.addP {V : Int} {m : Nat} {S : AS} (h : CI V m S) (x y : Nat) (fx : mg x < 9218868437227405312) (fy : mg y < 9218868437227405312) (hm : m + 1 ≤ 1048576) : CI (V + sv x * sv y) (m + 1) (stepP S x y) := by
  have g := stepP_good h.good x y (by have := h.c1; omega)
  obtain ⟨b, _, hb, e⟩ := unitP_fin x y fx fy
  rw [stepP_plus] at g ⊢
  exact h.plus e hb g
theorem CI.two {V : Int} {m : Nat} {S : AS} (h : CI V m S) (x y : Nat) (fx : mg x < 9218868437227405312) (fy : mg y < 9218868437227405312) (hm : m + 2 ≤ 1048576) : CI (V + (sv x * ((2 ^ K : Nat) : Int) + sv x * sv y)) (m + 2) (stepP (stepA S x) x y) := by
  have := (h.addA x fx (by omega)).addP x y fx fy (by omega)
  rw [Int.add_assoc] at this
  exact this
theorem CI.two' {V : Int} {m : Nat} {S : AS} (h : CI V m S) (y x : Nat) (fy : mg y < 9218868437227405312) (fx : mg x < 9218868437227405312) (hm : m + 2 ≤ 1048576) : CI (V + sv y * sv x + sv x * ((2 ^ K : Nat) : Int)) (m + 2) (stepA (stepP S y x) x) :=
  (h.addP y x fy fx (by omega)).addA x fx (by omega)
theorem CI.start (x : Nat) (_hx : x < 18446744073709551616) (n0 : mg x ≠ 0) (fx : mg x < 9218868437227405312) : CI (sv x * ((2 ^ K : Nat) : Int)) 1 (stepA S0 x) := by
  have g := stepP_good good0 x ONE (by decide)
  have e : stepA S0 x = ⟨1, 0, sv x * ((2 ^ K : Nat) : Int), false, false, false⟩ := by
    rw [stepA_plus, zero_plusS, unitA_fin x fx]
    have : zeroB x = false := by unfold zeroB; simp; exact n0
    rw [this]; rfl
  have g2 : Good (stepA S0 x) := g
  rw [e] at g2 ⊢
  exact ⟨rfl, rfl, rfl, by simp, by simp, rfl, g2⟩
theorem sub_out (x : Nat) (h : ¬ mg x < 9218868437227405312) : Ieee.double.sub x x = none := by
  by_cases c : mg x = 9218868437227405312
  · exact sub_inf_self x c
  · exact sub_nan x x (.inl (isN_true.2 (by omega)))
end Go.Proofs.Ytgbnabpbheebjaa
