/-
  Sums put together, and what Value says of two floats and of one product, by plain numbers.
-/
import Derived.Test.YtgbnabpbheebjaaGx
namespace Go.Proofs.Ytgbnabpbheebjaa
open Tf

theorem AS.eq (S U : AS) (h1 : S.c = U.c) (h2 : S.n = U.n) (h3 : S.V = U.V) (h4 : S.p = U.p) (h5 : S.q = U.q) (h6 : S.r = U.r) : S = U := by
  cases S; cases U; simp_all
def unitP (x y : Nat) : AS := stepP S0 x y
theorem stepP_plus (S : AS) (x y : Nat) : stepP S x y = plusS S (unitP x y) := by
  unfold unitP stepP
  by_cases h1 : (isN x || isN y || infB x && zeroB y || zeroB x && infB y) = true
  · rw [if_pos h1, if_pos h1]; apply AS.eq <;> simp [plusS, S0]
  · rw [if_neg h1, if_neg h1]
    by_cases h2 : (infB x || infB y) = true
    · rw [if_pos h2, if_pos h2]
      by_cases h3 : (ng x != ng y) = true
      · rw [if_pos h3, if_pos h3]; apply AS.eq <;> simp [plusS, S0]
      · rw [if_neg h3, if_neg h3]; apply AS.eq <;> simp [plusS, S0]
    · rw [if_neg h2, if_neg h2]
      by_cases h4 : (zeroB x || zeroB y) = true
      · rw [if_pos h4, if_pos h4]
        by_cases h3 : (ng x != ng y) = true
        · rw [if_pos h3, if_pos h3]; apply AS.eq <;> simp [plusS, S0]
        · rw [if_neg h3, if_neg h3]; apply AS.eq <;> simp [plusS, S0]
      · rw [if_neg h4, if_neg h4]; apply AS.eq <;> simp [plusS, S0]
theorem plusS_comm (S U : AS) : plusS S U = plusS U S := by
  apply AS.eq <;> simp [plusS, Int.add_comm, Bool.or_comm]
theorem plusS_assoc (S U T : AS) : plusS (plusS S U) T = plusS S (plusS U T) := by
  apply AS.eq <;> simp [plusS, Int.add_assoc, Bool.or_assoc]
theorem plusS_zero (S : AS) : plusS S S0 = S := by
  apply AS.eq <;> simp [plusS, S0]
theorem zero_plusS (S : AS) : plusS S0 S = S := by rw [plusS_comm, plusS_zero]
def unitA (x : Nat) : AS := unitP x ONE
theorem stepA_plus (S : AS) (x : Nat) : stepA S x = plusS S (unitA x) := stepP_plus S x ONE

theorem one_facts : isN ONE = false ∧ infB ONE = false ∧ zeroB ONE = false ∧ ng ONE = false := by decide
theorem sv_one : sv ONE = ((2 ^ K : Nat) : Int) := by
  have : sv ONE = ((one : Nat) : Int) := by decide +kernel
  rw [this, one_pow]
/-- the sum of one float -/
theorem unitA_eq (x : Nat) : unitA x = if isN x then ⟨1, 0, 0, false, false, true⟩ else if infB x then (if ng x then ⟨1, 0, 0, false, true, false⟩ else ⟨1, 0, 0, true, false, false⟩) else if zeroB x then (if ng x then ⟨1, 1, 0, false, false, false⟩ else ⟨1, 0, 0, false, false, false⟩) else ⟨1, 0, sv x * ((2 ^ K : Nat) : Int), false, false, false⟩ := by
  obtain ⟨h1, h2, h3, h4⟩ := one_facts
  unfold unitA unitP stepP
  rw [h1, h2, h3, h4, sv_one]
  simp only [Bool.or_false, Bool.and_false, Bool.bne_false]
  have z0 : S0.c + 1 = 1 := rfl
  have z1 : S0.n + 1 = 1 := rfl
  simp [S0]
theorem zero_sv (x : Nat) (h : mg x = 0) : sv x = 0 := by unfold sv; rw [h, mv_zero]; split <;> rfl

/-- rounding units of 2^-2148 that are whole units of 2^-1074 -/
theorem rv_scale (v : Int) : rv (v * ((2 ^ K : Nat) : Int)) = rn false v := by
  have hp := pow_pos K
  have hab : (v * ((2 ^ K : Nat) : Int)).natAbs = v.natAbs * 2 ^ K := by rw [Int.natAbs_mul, Int.natAbs_natCast]
  have hr : rung 52 K (v.natAbs * 2 ^ K) = rung 52 0 v.natAbs := by
    have := rung_scale 52 0 K v.natAbs
    rw [Nat.zero_add] at this; exact this
  unfold rv rn
  rw [hab, hr]
  have hpos : (0 : Int) < ((2 ^ K : Nat) : Int) := by omega
  by_cases c : v < 0
  · have hz : v ≠ 0 := by omega
    rw [if_pos (Int.mul_neg_of_neg_of_pos c hpos)]
    simp only [if_neg hz, decide_eq_true c, if_true]
  · have h0 : 0 ≤ v * ((2 ^ K : Nat) : Int) := Int.mul_nonneg (by omega) (by omega)
    rw [if_neg (by omega : ¬ v * ((2 ^ K : Nat) : Int) < 0)]
    by_cases z : v = 0
    · simp only [if_pos z, Bool.false_eq_true, if_false]
    · simp only [if_neg z, decide_eq_false c, Bool.false_eq_true, if_false]
theorem canon_rv_scale (v : Int) : canonB (rv (v * ((2 ^ K : Nat) : Int))) = rn false v := by rw [rv_scale, canon_rn]

theorem unitA_fin (x : Nat) (fx : mg x < 9218868437227405312) : unitA x = ⟨1, if zeroB x && ng x then 1 else 0, sv x * ((2 ^ K : Nat) : Int), false, false, false⟩ := by
  rw [unitA_eq]
  rcases class_facts x with ⟨k1, _, k3, k4⟩ | ⟨k0, k1, _, k3, k4⟩ | ⟨k0, k1, _, k3, k4⟩ | ⟨k0, k00, k1, _, _, k3, k4⟩
  · rw [isN_true] at k1; omega
  · omega
  · rw [k1, k3, k4, zero_sv x k0]
    cases ng x <;> simp
  · rw [k1, k3, k4]; simp
theorem fin_two (x y : Nat) (fx : mg x < 9218868437227405312) (fy : mg y < 9218868437227405312) : valB (plusS (unitA x) (unitA y)) = rn (ng x && ng y) (sv x + sv y) := by
  have hz : ∀ a : Nat, zeroB a = true ↔ mg a = 0 := fun a => by unfold zeroB; simp
  have hsx : mg x ≠ 0 → (ng x = true → sv x < 0) ∧ (ng x = false → 0 < sv x) := by
    intro h
    have : 0 < mv (mg x) := by have := mv_lt (r := 0) (r' := mg x); rw [mv_zero] at this; omega
    unfold sv
    cases ng x
    · simp; omega
    · simp; omega
  have hsy : mg y ≠ 0 → (ng y = true → sv y < 0) ∧ (ng y = false → 0 < sv y) := by
    intro h
    have : 0 < mv (mg y) := by have := mv_lt (r := 0) (r' := mg y); rw [mv_zero] at this; omega
    unfold sv
    cases ng y
    · simp; omega
    · simp; omega
  have key : canonB (rv (sv x * ((2 ^ K : Nat) : Int) + sv y * ((2 ^ K : Nat) : Int))) = rn false (sv x + sv y) := by rw [← Int.add_mul, canon_rv_scale]
  rw [unitA_fin x fx, unitA_fin y fy]
  unfold valB plusS
  simp only [Bool.or_false, Bool.and_false, Bool.false_eq_true, if_false]
  rw [key]
  by_cases c : (zeroB x && ng x) = true ∧ (zeroB y && ng y) = true
  · rw [if_pos c.1, if_pos c.2, if_pos (by decide)]
    have c1 := c.1; have c2 := c.2
    rw [Bool.and_eq_true] at c1 c2
    rw [c1.2, c2.2, zero_sv x ((hz x).1 c1.1), zero_sv y ((hz y).1 c2.1)]
    show _ = rn true 0
    rw [rn_zero]; rfl
  · rw [if_neg (by
      rintro ⟨_, h⟩
      apply c
      revert h
      cases (zeroB x && ng x) <;> cases (zeroB y && ng y) <;> simp)]
    by_cases v : sv x + sv y = 0
    · rw [v]
      have hn : (ng x && ng y) = false := by
        cases hnx : ng x
        · rfl
        · cases hny : ng y
          · rfl
          · exfalso
            apply c
            by_cases ex : mg x = 0
            · by_cases ey : mg y = 0
              · exact ⟨by rw [(hz x).2 ex, hnx]; rfl, by rw [(hz y).2 ey, hny]; rfl⟩
              · have := (hsy ey).1 hny; have := zero_sv x ex; omega
            · have h1 := (hsx ex).1 hnx
              by_cases ey : mg y = 0
              · have := zero_sv y ey; omega
              · have := (hsy ey).1 hny; omega
      rw [hn]
    · exact rn_ne _ _ _ v
/-- WHAT VALUE SAYS OF TWO FLOATS is their sum -/
theorem val_two (x y : Nat) (hx : x < 18446744073709551616) (hy : y < 18446744073709551616) :
    (Ieee.double.add x y = none ∧ valB (stepA (stepA S0 x) y) = quiet) ∨ ∃ t, Ieee.double.add x y = some t ∧ valB (stepA (stepA S0 x) y) = t ∧ isN t = false ∧ t < 18446744073709551616 := by
  rw [stepA_plus, stepA_plus, zero_plusS, unitA_eq, unitA_eq]
  rcases class_facts x with ⟨k1, _, k3, k4⟩ | ⟨k0, k1, _, k3, k4⟩ | ⟨k0, k1, _, k3, k4⟩ | ⟨k0, k00, k1, _, _, k3, k4⟩
  · left
    refine ⟨add_nan x y (.inl k1), ?_⟩
    rw [k1, if_pos rfl]; unfold valB plusS; simp
  · rcases class_facts y with ⟨l1, _, l3, l4⟩ | ⟨l0, l1, _, l3, l4⟩ | ⟨l0, l1, _, l3, l4⟩ | ⟨l0, l00, l1, _, _, l3, l4⟩
    · left
      refine ⟨add_nan x y (.inr l1), ?_⟩
      rw [l1]; unfold valB plusS; simp
    · rw [k1, k3, l1, l3]
      by_cases c : ng x = ng y
      · right
        refine ⟨infW (ng x), by rw [add_ii x y hx hy k0 l0, if_pos c], ?_, ?_, infW_lt _⟩
        · rw [← c]; unfold valB plusS infW; cases ng x <;> simp
        · cases ng x <;> decide
      · left
        refine ⟨by rw [add_ii x y hx hy k0 l0, if_neg c], ?_⟩
        unfold valB plusS
        revert c
        cases ng x <;> cases ng y <;> simp
    · right
      refine ⟨infW (ng x), by rw [add_if x y hx k0 (by omega)], ?_, ?_, infW_lt _⟩
      · rw [k1, k3, l1, l3, l4]; unfold valB plusS infW; cases ng x <;> cases ng y <;> simp
      · cases ng x <;> decide
    · right
      refine ⟨infW (ng x), by rw [add_if x y hx k0 l00], ?_, ?_, infW_lt _⟩
      · rw [k1, k3, l1, l3, l4]; unfold valB plusS infW; cases ng x <;> simp
      · cases ng x <;> decide
  all_goals
    have fx : mg x < 9218868437227405312 := by omega
    rcases class_facts y with ⟨l1, _, l3, l4⟩ | ⟨l0, l1, _, l3, l4⟩ | ⟨l0, l1, _, l3, l4⟩ | ⟨l0, l00, l1, _, _, l3, l4⟩
    · left
      refine ⟨add_nan x y (.inr l1), ?_⟩
      rw [l1]; unfold valB plusS; simp
    · right
      refine ⟨infW (ng y), by rw [add_fi x y hy fx l0], ?_, ?_, infW_lt _⟩
      · rw [k1, k3, k4, l1, l3]; unfold valB plusS infW; cases ng x <;> cases ng y <;> simp
      · cases ng y <;> decide
    all_goals
      have fy : mg y < 9218868437227405312 := by omega
      right
      refine ⟨_, add_d x y hx hy fx fy, ?_, isN_rn _ _, rn_lt _ _⟩
      rw [← unitA_eq, ← unitA_eq]
      exact fin_two x y fx fy

/-- WHAT VALUE SAYS OF ONE PRODUCT is that product -/
theorem val_prod (x y : Nat) (hx : x < 18446744073709551616) (hy : y < 18446744073709551616) :
    (Ieee.double.mul x y = none ∧ valB (stepP S0 x y) = quiet) ∨ ∃ t, Ieee.double.mul x y = some t ∧ isN t = false ∧ t < 18446744073709551616 ∧
      ((mg t = 0 ∧ mg x ≠ 0 ∧ mg y ≠ 0 ∧ valB (stepP S0 x y) = 0) ∨ (¬ (mg t = 0 ∧ mg x ≠ 0 ∧ mg y ≠ 0) ∧ valB (stepP S0 x y) = t)) := by
  have hxor : ∀ a b : Bool, (a ^^ b) = (a != b) := by decide
  unfold stepP
  rcases class_facts x with ⟨k1, _, k3, k4⟩ | ⟨k0, k1, _, k3, k4⟩ | ⟨k0, k1, _, k3, k4⟩ | ⟨k0, k00, k1, _, _, k3, k4⟩
  · left
    refine ⟨mul_nan x y (.inl k1), ?_⟩
    rw [k1]; unfold valB; simp
  · rcases class_facts y with ⟨l1, _, l3, l4⟩ | ⟨l0, l1, _, l3, l4⟩ | ⟨l0, l1, _, l3, l4⟩ | ⟨l0, l00, l1, _, _, l3, l4⟩
    · left
      refine ⟨mul_nan x y (.inr l1), ?_⟩
      rw [l1]; unfold valB; simp
    · right
      refine ⟨infW (ng x ^^ ng y), mul_ii x y hx hy k0 l0, by cases (ng x ^^ ng y) <;> decide, infW_lt _, Or.inr ⟨by rw [infW_mg]; omega, ?_⟩⟩
      rw [k1, k3, k4, l1, l3, l4, hxor]; unfold valB infW; cases (ng x != ng y) <;> simp [S0]
    · left
      refine ⟨by rw [mul_if x y hx hy k0 (by omega), if_pos l0], ?_⟩
      rw [k1, k3, k4, l1, l3, l4]; unfold valB; simp
    · right
      refine ⟨infW (ng x ^^ ng y), by rw [mul_if x y hx hy k0 l00, if_neg (by omega)], by cases (ng x ^^ ng y) <;> decide, infW_lt _, Or.inr ⟨by rw [infW_mg]; omega, ?_⟩⟩
      rw [k1, k3, k4, l1, l3, l4, hxor]; unfold valB infW; cases (ng x != ng y) <;> simp [S0]
  · rcases class_facts y with ⟨l1, _, l3, l4⟩ | ⟨l0, l1, _, l3, l4⟩ | ⟨l0, l1, _, l3, l4⟩ | ⟨l0, l00, l1, _, _, l3, l4⟩
    · left
      refine ⟨mul_nan x y (.inr l1), ?_⟩
      rw [l1]; unfold valB; simp
    · left
      refine ⟨by rw [mul_fi x y hx hy (by omega) l0, if_pos k0], ?_⟩
      rw [k1, k3, k4, l1, l3, l4]; unfold valB; simp
    all_goals
      right
      have hz : min (rung 52 1074 (mv (mg x) * mv (mg y))) 9218868437227405312 = 0 := by rw [k0, mv_zero, Nat.zero_mul]; decide +kernel
      have hm := mul_d x y hx hy (by omega) (by omega)
      rw [hz] at hm
      refine ⟨_, hm, ?_, ?_, Or.inr ⟨fun h => h.2.1 k0, ?_⟩⟩
      · cases (ng x ^^ ng y) <;> decide
      · cases (ng x ^^ ng y) <;> decide
      · rw [k1, k3, k4, l1, l3, l4, hxor]; simp only [Bool.or_false, Bool.and_false, Bool.and_true, Bool.or_self, Bool.false_eq_true, if_true, if_false]; cases (ng x != ng y) <;> decide +kernel
  · rcases class_facts y with ⟨l1, _, l3, l4⟩ | ⟨l0, l1, _, l3, l4⟩ | ⟨l0, l1, _, l3, l4⟩ | ⟨l0, l00, l1, _, _, l3, l4⟩
    · left
      refine ⟨mul_nan x y (.inr l1), ?_⟩
      rw [l1]; unfold valB; simp
    · right
      refine ⟨infW (ng x ^^ ng y), by rw [mul_fi x y hx hy k00 l0, if_neg (by omega)], by cases (ng x ^^ ng y) <;> decide, infW_lt _, Or.inr ⟨by rw [infW_mg]; omega, ?_⟩⟩
      rw [k1, k3, k4, l1, l3, l4, hxor]; unfold valB infW; cases (ng x != ng y) <;> simp [S0]
    · right
      have hz : min (rung 52 1074 (mv (mg x) * mv (mg y))) 9218868437227405312 = 0 := by rw [l0, mv_zero, Nat.mul_zero]; decide +kernel
      have hm := mul_d x y hx hy (by omega) (by omega)
      rw [hz] at hm
      refine ⟨_, hm, ?_, ?_, Or.inr ⟨fun h => h.2.2 l0, ?_⟩⟩
      · cases (ng x ^^ ng y) <;> decide
      · cases (ng x ^^ ng y) <;> decide
      · rw [k1, k3, k4, l1, l3, l4, hxor]; simp only [Bool.or_true, Bool.and_false, Bool.and_true, Bool.or_self, Bool.false_eq_true, if_true, if_false]; cases (ng x != ng y) <;> decide +kernel
    · right
      have hm := mul_d x y hx hy k00 l00
      have hle : min (rung 52 1074 (mv (mg x) * mv (mg y))) 9218868437227405312 ≤ 9218868437227405312 := Nat.min_le_right _ _
      have hmx : 0 < mv (mg x) := by have := mv_lt (r := 0) (r' := mg x); rw [mv_zero] at this; omega
      have hmy : 0 < mv (mg y) := by have := mv_lt (r := 0) (r' := mg y); rw [mv_zero] at this; omega
      have hmm : 0 < mv (mg x) * mv (mg y) := Nat.mul_pos hmx hmy
      have hrv : rv (sv x * sv y) = if (ng x ^^ ng y) then 9223372036854775808 + min (rung 52 1074 (mv (mg x) * mv (mg y))) 9218868437227405312 else min (rung 52 1074 (mv (mg x) * mv (mg y))) 9218868437227405312 := by
        rw [sv_mul_abs, hxor]
        unfold rv
        cases (ng x != ng y)
        · simp only [Bool.false_eq_true, if_false]
          rw [if_neg (by omega), Int.natAbs_natCast]; rfl
        · simp only [if_true]
          rw [if_pos (by omega), Int.natAbs_neg, Int.natAbs_natCast]; rfl
      have hval : valB { S0 with c := S0.c + 1, V := S0.V + sv x * sv y } = canonB (rv (sv x * sv y)) := by
        unfold valB
        simp [S0]
      rw [k1, k3, k4, l1, l3, l4]
      simp only [Bool.or_false, Bool.and_false, Bool.false_eq_true, if_false]
      rw [hval, hrv]
      generalize min (rung 52 1074 (mv (mg x) * mv (mg y))) 9218868437227405312 = m at *
      have hN : isN (if (ng x ^^ ng y) = true then 9223372036854775808 + m else m) = false := by
        unfold isN mg; cases (ng x ^^ ng y) <;> simp <;> omega
      have hmg : mg (if (ng x ^^ ng y) = true then 9223372036854775808 + m else m) = m := by
        unfold mg; cases (ng x ^^ ng y) <;> simp <;> omega
      refine ⟨_, hm, hN, ?_, ?_⟩
      · cases (ng x ^^ ng y) <;> simp <;> omega
      · rw [hmg]
        unfold canonB
        rw [hN, hmg]
        by_cases z : m = 0
        · left
          exact ⟨z, by omega, by omega, by rw [if_neg (by decide), if_pos z]⟩
        · right
          exact ⟨fun h => z h.1, by rw [if_neg (by decide), if_neg z]⟩
end Go.Proofs.Ytgbnabpbheebjaa
