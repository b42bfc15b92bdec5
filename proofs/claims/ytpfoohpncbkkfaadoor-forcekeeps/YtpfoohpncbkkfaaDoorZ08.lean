/-
  Some of the texts of this proof, one behind the other.
-/
import Derived.Test.YtpfoohpncbkkfaaDoorRows
import Derived.ProofKit
import Derived.OpenShut
import Derived.WalkLawsBesides
import Derived.Stop.Joined
import Derived.Carry
import Derived.Lib.SmallJoins
import Derived.Deep.Slices
import Derived.Deep.OwnRows
import Derived.Laws.StructEq
import Derived.Test.YtpfoohpncbkkfaaDoorZ07
namespace Go.Proofs.YtpfoohpncbkkfaaDoor
open Tf Ieee Cu
/-- a number, reckoned out ahead of what is done with it -/
def frc {β : Type} (x : Nat) (f : Nat → β) : β := match x with | 0 => f 0 | n + 1 => f (n + 1)
theorem frc_eq {β : Type} (x : Nat) (f : Nat → β) : frc x f = f x := by cases x <;> rfl
theorem cond_eq {c : Bool} {a b : Nat} (h : c = true → a = b) : (bif c then a else b) = b := by
  cases c
  · rfl
  · exact h rfl
def rneF (q r g : Nat) : Nat := frc q fun q => frc (2 * r) fun t => frc g fun g => q + (bif Nat.blt g t || (Nat.beq g t && Nat.beq (q % 2) 1) then 1 else 0)
theorem rneF_eq (n g : Nat) : rneF (n / g) (n % g) g = rne n g := by
  unfold rneF rne
  simp only [frc_eq]
  congr 1
  by_cases c : g < 2 * (n % g) ∨ (g = 2 * (n % g) ∧ n / g % 2 = 1)
  · rw [if_pos c]
    have : (Nat.blt g (2 * (n % g)) || (Nat.beq g (2 * (n % g)) && Nat.beq (n / g % 2) 1)) = true := by simpa using c
    rw [this]; rfl
  · rw [if_neg c]
    have : (Nat.blt g (2 * (n % g)) || (Nat.beq g (2 * (n % g)) && Nat.beq (n / g % 2) 1)) = false := by
      rw [Bool.eq_false_iff]; intro h; exact c (by simpa using h)
    rw [this]; rfl
def lgS (V : Nat) : Nat → Nat → Nat
  | 0, acc => acc
  | k + 1, acc => frc acc fun acc => bif Nat.ble (2 ^ (acc + 2 ^ k)) V then lgS V k (acc + 2 ^ k) else lgS V k acc
def lgF (V : Nat) : Nat := frc (lgS V 8 0) fun l => bif Nat.ble (2 ^ l) V && Nat.blt V (2 ^ (l + 1)) then l else V.log2
theorem lgF_eq (V : Nat) : lgF V = V.log2 := by
  unfold lgF
  rw [frc_eq]
  refine cond_eq fun h => ?_
  rw [Bool.and_eq_true] at h
  exact (log2_of (by simpa using h.1) (by simpa using h.2)).symm
def rungF (d V : Nat) : Nat := frc V fun V => frc (lgF V - (52 + d)) fun e => frc (2 ^ (e + d)) fun g => e * 4503599627370496 + rneF (V / g) (V % g) g
theorem rungF_eq (d V : Nat) : rungF d V = rung 52 d V := by
  unfold rungF rung
  simp only [frc_eq, lgF_eq]
  rw [rneF_eq]
/-- a number of 2 ^ e's, rounded -/
theorem rung_pow {V : Nat} (h0 : V ≠ 0) (h : 52 ≤ V.log2) (c : Nat) : rung 52 0 (V * 2 ^ c) = rung 52 0 V + c * 4503599627370496 := by
  induction c with
  | zero => rw [Nat.pow_zero, Nat.mul_one, Nat.zero_mul, Nat.add_zero]
  | succ c ih =>
    have hp := Nat.two_pow_pos c
    have h2 : V * 2 ^ c ≠ 0 := Nat.mul_ne_zero h0 (by omega)
    rw [Nat.pow_succ, ← Nat.mul_assoc, rung_dbl h2 (by rw [log2_mul_pow V c h0]; omega), ih, Nat.add_mul, Nat.one_mul, Nat.add_assoc]
def nrmV (V e : Nat) : Nat := frc V fun V => frc e fun e => frc (lgF V) fun l =>
  bif Nat.beq V 0 then rung 52 0 (V * 2 ^ e) else bif Nat.ble 52 l then rungF 0 V + e * 4503599627370496 else bif Nat.ble (52 - l) e then V * 2 ^ (52 - l) + (e - (52 - l)) * 4503599627370496 else rung 52 0 (V * 2 ^ e)
theorem nrmV_eq (V e : Nat) : nrmV V e = rung 52 0 (V * 2 ^ e) := by
  unfold nrmV
  simp only [frc_eq, lgF_eq, rungF_eq]
  by_cases c : V = 0
  · have : Nat.beq V 0 = true := by rw [c]; decide
    rw [this, cond_true]
  · have h0 : Nat.beq V 0 = false := by rw [Bool.eq_false_iff]; intro k; exact c (by simpa using k)
    rw [h0, cond_false]
    by_cases h : 52 ≤ V.log2
    · have h1 : Nat.ble 52 V.log2 = true := by simpa using h
      rw [h1, cond_true, rung_pow c h]
    · have h1 : Nat.ble 52 V.log2 = false := by rw [Bool.eq_false_iff]; intro k; exact h (by simpa using k)
      rw [h1, cond_false]
      refine cond_eq fun k => ?_
      have k : 52 - V.log2 ≤ e := by simpa using k
      have hl : (V * 2 ^ (52 - V.log2)).log2 = 52 := by rw [log2_mul_pow V _ c]; omega
      have hne : V * 2 ^ (52 - V.log2) ≠ 0 := Nat.mul_ne_zero c (by have := Nat.two_pow_pos (52 - V.log2); omega)
      have e1 : V * 2 ^ e = V * 2 ^ (52 - V.log2) * 2 ^ (e - (52 - V.log2)) := by
        rw [Nat.mul_assoc, ← Nat.pow_add]; congr 2; omega
      rw [e1, rung_pow hne (by omega)]
      have e2 : rung 52 0 (V * 2 ^ (52 - V.log2)) = V * 2 ^ (52 - V.log2) := by
        unfold rung rne
        rw [hl]
        simp
        omega
      rw [e2]
/-- magnitude and sign; the two parts of a number -/
def mgF (a : Nat) : Nat := a % 9223372036854775808
theorem mgF_eq (a : Nat) : mgF a = mg a := rfl
def nrmF (a : Nat) : Bool := Nat.blt a 18446744073709551616 && Nat.ble 4503599627370496 (mgF a) && Nat.blt (mgF a) 9218868437227405312
theorem nrmF_iff {a : Nat} (h : nrmF a = true) : a < 18446744073709551616 ∧ 4503599627370496 ≤ mg a ∧ mg a < 9218868437227405312 := by
  simp only [nrmF, mgF_eq, Bool.and_eq_true] at h
  exact ⟨by simpa using h.1.1, by simpa using h.1.2, by simpa using h.2⟩
def ngF (a : Nat) : Bool := Nat.ble 9223372036854775808 a
theorem ngF_eq (a : Nat) : ngF a = ng a := by
  unfold ngF ng
  by_cases c : 9223372036854775808 ≤ a
  · rw [decide_eq_true c]; simpa using c
  · rw [decide_eq_false c]; rw [Bool.eq_false_iff]; intro h; exact c (by simpa using h)
def pm (a : Nat) : Nat := 4503599627370496 + mgF a % 4503599627370496
def pe (a : Nat) : Nat := mgF a / 4503599627370496 - 1
theorem mv_pm {a : Nat} (h : 4503599627370496 ≤ mg a) : mv (mg a) = pm a * 2 ^ pe a := mv_parts h
theorem pm_def (a : Nat) : 4503599627370496 + mg a % 4503599627370496 = pm a := by unfold pm; rw [mgF_eq]
theorem pe_def (a : Nat) : mg a / 4503599627370496 - 1 = pe a := by unfold pe; rw [mgF_eq]
def wdF (s : Bool) (r : Nat) : Nat := bif s then 9223372036854775808 + r else r
/-- a difference -/
def alI (s : Bool) (m : Nat) : Int := bif s then -(m : Int) else (m : Int)
def dfV (a b e : Nat) : Int := alI (ngF a) (pm a * 2 ^ (pe a - e)) - alI (ngF b) (pm b * 2 ^ (pe b - e))
def fsb0 (a b e : Nat) : Nat := frc (dfV a b e).natAbs fun V => frc (nrmV V e) fun r => bif Nat.beq V 0 then 0 else bif Nat.ble r 9218868437227405312 then wdF (decide (dfV a b e < 0)) r else sbB a b
theorem fsb0_eq (a b e : Nat) (ha : nrmF a = true) (hb : nrmF b = true) (h1 : e ≤ pe a) (h2 : e ≤ pe b) : fsb0 a b e = sbB a b := by
  obtain ⟨a1, a2, a3⟩ := nrmF_iff ha
  obtain ⟨b1, b2, b3⟩ := nrmF_iff hb
  have hsv : sv a - sv b = dfV a b e * ((2 ^ e : Nat) : Int) := by
    have e1 : pm a * 2 ^ pe a = pm a * 2 ^ (pe a - e) * 2 ^ e := by rw [Nat.mul_assoc, ← Nat.pow_add]; congr 2; omega
    have e2 : pm b * 2 ^ pe b = pm b * 2 ^ (pe b - e) * 2 ^ e := by rw [Nat.mul_assoc, ← Nat.pow_add]; congr 2; omega
    unfold sv dfV alI
    rw [mv_pm a2, mv_pm b2, e1, e2, ngF_eq, ngF_eq]
    cases ng a <;> cases ng b <;> simp only [cond_true, cond_false, Bool.false_eq_true, if_false, if_true, Int.natCast_mul, Int.sub_mul, Int.neg_mul]
  have hsb : sbB a b = rn false (dfV a b e * ((2 ^ e : Nat) : Int)) := by
    unfold sbB
    rw [addB_fin a _ a1 (negB_lt' b1) a3 (by rw [negB_mg b1]; exact b3), negB_sv b1, ← Int.sub_eq_add_neg, hsv]
  unfold fsb0
  simp only [frc_eq, nrmV_eq]
  rw [hsb]
  generalize dfV a b e = v at *
  have hp := Nat.two_pow_pos e
  generalize 2 ^ e = P at *
  by_cases c : v = 0
  · have : Nat.beq v.natAbs 0 = true := by rw [c]; decide
    rw [this, cond_true, c, Int.zero_mul, rn_zero, if_neg Bool.false_ne_true]
  · have h0 : Nat.beq v.natAbs 0 = false := by rw [Bool.eq_false_iff]; intro k; have : v.natAbs = 0 := by simpa using k
                                               omega
    rw [h0, cond_false]
    refine cond_eq fun k => ?_
    have k : rung 52 0 (v.natAbs * P) ≤ 9218868437227405312 := by simpa using k
    have hna : (v * (P : Int)).natAbs = v.natAbs * P := by rw [Int.natAbs_mul, Int.natAbs_natCast]
    have hz : ¬ v * (P : Int) = 0 := by
      intro h
      rcases Int.mul_eq_zero.1 h with h | h
      · exact c h
      · omega
    have hs : decide (v * (P : Int) < 0) = decide (v < 0) := by
      by_cases d : v < 0
      · rw [decide_eq_true d, decide_eq_true (Int.mul_neg_of_neg_of_pos d (by omega))]
      · rw [decide_eq_false d, decide_eq_false (by have : 0 ≤ v * (P : Int) := Int.mul_nonneg (by omega) (by omega)
                                                   omega)]
    unfold rn wdF
    rw [if_neg hz, hna, hs, Nat.min_eq_left k]
    cases decide (v < 0)
    · rw [cond_false, if_neg Bool.false_ne_true]
    · rw [cond_true, if_pos rfl]
def fsb1 (a b : Nat) : Nat := frc a fun a => frc b fun b =>
  bif nrmF a && nrmF b then (bif Nat.ble (pe a) (pe b) then fsb0 a b (pe a) else fsb0 a b (pe b)) else sbB a b
theorem fsb1_eq (a b : Nat) : fsb1 a b = sbB a b := by
  unfold fsb1
  simp only [frc_eq]
  refine cond_eq fun h => ?_
  rw [Bool.and_eq_true] at h
  cases c : Nat.ble (pe a) (pe b)
  · have : ¬ pe a ≤ pe b := fun k => by rw [show Nat.ble (pe a) (pe b) = true by simpa using k] at c; cases c
    rw [cond_false]; exact fsb0_eq a b _ h.1 h.2 (by omega) (Nat.le_refl _)
  · have : pe a ≤ pe b := by simpa using c
    rw [cond_true]; exact fsb0_eq a b _ h.1 h.2 (Nat.le_refl _) this
def fml1 (a b : Nat) : Nat := frc a fun a => frc b fun b => frc (nrmV (pm a * pm b) (pe a + pe b - 1074)) fun r =>
  bif nrmF a && nrmF b && Nat.ble 1074 (pe a + pe b) && Nat.ble r 9218868437227405312 then wdF (xor (ngF a) (ngF b)) r else mlB a b
theorem fml1_eq (a b : Nat) : fml1 a b = mlB a b := by
  unfold fml1
  simp only [frc_eq, nrmV_eq]
  refine cond_eq fun h => ?_
  simp only [Bool.and_eq_true] at h
  obtain ⟨⟨⟨h1, h2⟩, h3⟩, h4⟩ := h
  obtain ⟨a1, a2, a3⟩ := nrmF_iff h1
  obtain ⟨b1, b2, b3⟩ := nrmF_iff h2
  have h3 : 1074 ≤ pe a + pe b := by simpa using h3
  have h4 : rung 52 0 (pm a * pm b * 2 ^ (pe a + pe b - 1074)) ≤ 9218868437227405312 := by simpa using h4
  have e : mv (mg a) * mv (mg b) = pm a * pm b * 2 ^ (pe a + pe b - 1074) * 2 ^ K := by
    rw [mv_pm a2, mv_pm b2, Nat.mul_mul_mul_comm, ← Nat.pow_add, Nat.mul_assoc (pm a * pm b), ← Nat.pow_add]
    have hK : K = 1074 := rfl
    rw [show pe a + pe b - 1074 + K = pe a + pe b by omega]
  have er : rung 52 1074 (mv (mg a) * mv (mg b)) = rung 52 0 (pm a * pm b * 2 ^ (pe a + pe b - 1074)) := by
    rw [e]
    generalize pm a * pm b * 2 ^ (pe a + pe b - 1074) = V
    have := rung_scale 52 0 K V
    rw [Nat.zero_add] at this
    have hK : (1074 : Nat) = K := rfl
    rw [hK]
    exact this
  rw [mlB_some (mul_d a b a1 b1 a3 b3), er, Nat.min_eq_left h4, ngF_eq, ngF_eq]
  unfold wdF
  cases (ng a ^^ ng b)
  · rw [cond_false, if_neg Bool.false_ne_true]
  · rw [cond_true, if_pos rfl]
def fpl0 (a b : Nat) : Nat := frc (nrmV (pm a + pm b * 2 ^ (pe b - pe a)) (pe a)) fun r => bif nrmF a && nrmF b && Nat.blt a 9223372036854775808 && Nat.blt b 9223372036854775808 && Nat.ble (pe a) (pe b) && Nat.ble r 9218868437227405312 then r else plB a b
theorem fpl0_eq (a b : Nat) : fpl0 a b = plB a b := by
  unfold fpl0
  simp only [frc_eq, nrmV_eq]
  refine cond_eq fun h => ?_
  simp only [Bool.and_eq_true] at h
  obtain ⟨⟨⟨⟨⟨h1, h2⟩, h3⟩, h4⟩, h5⟩, h6⟩ := h
  obtain ⟨a1, a2, a3⟩ := nrmF_iff h1
  obtain ⟨b1, b2, b3⟩ := nrmF_iff h2
  have h3 : a < 9223372036854775808 := by simpa using h3
  have h4 : b < 9223372036854775808 := by simpa using h4
  have h5 : pe a ≤ pe b := by simpa using h5
  have h6 : rung 52 0 ((pm a + pm b * 2 ^ (pe b - pe a)) * 2 ^ pe a) ≤ 9218868437227405312 := by simpa using h6
  have ma : mg a = a := mg_of_lt h3
  have mb : mg b = b := mg_of_lt h4
  have e : mv a + mv b = (pm a + pm b * 2 ^ (pe b - pe a)) * 2 ^ pe a := by
    have ea := mv_pm a2
    have eb := mv_pm b2
    rw [ma] at ea
    rw [mb] at eb
    rw [ea, eb, Nat.add_mul, Nat.mul_assoc (pm b), ← Nat.pow_add]
    congr 3; omega
  rw [pl_word (by omega) (by omega), e, Nat.min_eq_left h6]
def fpl1 (a b : Nat) : Nat := frc a fun a => frc b fun b => bif Nat.ble (pe a) (pe b) then fpl0 a b else bif Nat.blt a 9218868437227405312 && Nat.blt b 9218868437227405312 then fpl0 b a else plB a b
theorem fpl1_eq (a b : Nat) : fpl1 a b = plB a b := by
  unfold fpl1
  simp only [frc_eq, fpl0_eq]
  cases Nat.ble (pe a) (pe b)
  · rw [cond_false]
    refine cond_eq fun h => ?_
    rw [Bool.and_eq_true] at h
    have h1 : a < 9218868437227405312 := by simpa using h.1
    have h2 : b < 9218868437227405312 := by simpa using h.2
    rw [pl_word h1 h2, pl_word h2 h1, Nat.add_comm]
  · rw [cond_true]
/-- with noughts -/
def finF (a : Nat) : Bool := Nat.blt a 18446744073709551616 && Nat.blt (mgF a) 9218868437227405312
theorem finF_iff {a : Nat} (h : finF a = true) : a < 18446744073709551616 ∧ mg a < 9218868437227405312 := by
  simp only [finF, mgF_eq, Bool.and_eq_true] at h
  exact ⟨by simpa using h.1, by simpa using h.2⟩
theorem mv_0 : mv 0 = 0 := by decide
def fml (a b : Nat) : Nat := frc a fun a => frc b fun b => bif (Nat.beq (mgF a) 0 || Nat.beq (mgF b) 0) && (finF a && finF b) then wdF (xor (ngF a) (ngF b)) 0 else fml1 a b
theorem fml_eq (a b : Nat) : fml a b = mlB a b := by
  unfold fml
  simp only [frc_eq, fml1_eq]
  refine cond_eq fun h => ?_
  simp only [Bool.and_eq_true, Bool.or_eq_true] at h
  obtain ⟨h1, h2, h3⟩ := h
  obtain ⟨a1, a2⟩ := finF_iff h2
  obtain ⟨b1, b2⟩ := finF_iff h3
  have hz : mv (mg a) * mv (mg b) = 0 := by
    rcases h1 with h | h
    · have : mg a = 0 := by simpa [mgF_eq] using h
      rw [this, mv_0, Nat.zero_mul]
    · have : mg b = 0 := by simpa [mgF_eq] using h
      rw [this, mv_0, Nat.mul_zero]
  have hr : min (rung 52 1074 0) 9218868437227405312 = 0 := by decide +kernel
  rw [mlB_some (mul_d a b a1 b1 a2 b2), hz, hr, ngF_eq, ngF_eq]
  unfold wdF
  cases (ng a ^^ ng b)
  · rw [cond_false, if_neg Bool.false_ne_true]
  · rw [cond_true, if_pos rfl]
theorem pl_0 {b : Nat} (h : b < 9218868437227405312) : plB 0 b = b ∧ plB b 0 = b := by
  have h0 : (0 : Nat) < 9218868437227405312 := by omega
  have e : rung 52 0 (mv b) = b := rung_mag0 52 b (by omega)
  rw [pl_word h0 h, pl_word h h0, mv_0, Nat.zero_add, Nat.add_zero, e, Nat.min_eq_left (by omega)]
  exact ⟨rfl, rfl⟩
def fpl (a b : Nat) : Nat := frc a fun a => frc b fun b => bif Nat.beq a 0 && Nat.blt b 9218868437227405312 then b else bif Nat.beq b 0 && Nat.blt a 9218868437227405312 then a else fpl1 a b
theorem fpl_eq (a b : Nat) : fpl a b = plB a b := by
  unfold fpl
  simp only [frc_eq, fpl1_eq]
  have k : (bif Nat.beq b 0 && Nat.blt a 9218868437227405312 then a else plB a b) = plB a b := by
    refine cond_eq fun h => ?_
    rw [Bool.and_eq_true] at h
    have h1 : b = 0 := by simpa using h.1
    have h2 : a < 9218868437227405312 := by simpa using h.2
    rw [h1, (pl_0 h2).2]
  rw [k]
  refine cond_eq fun h => ?_
  rw [Bool.and_eq_true] at h
  have h1 : a = 0 := by simpa using h.1
  have h2 : b < 9218868437227405312 := by simpa using h.2
  rw [h1, (pl_0 h2).1]
theorem mv_ne {r : Nat} (h : r ≠ 0) : mv r ≠ 0 := by
  intro e
  have := rung_mag0 52 r (by omega)
  have e2 : mag 52 r = 0 := e
  rw [e2] at this
  have z := rung_mag0 52 0 (by omega)
  have e3 : mag 52 0 = 0 := mv_0
  rw [e3] at z
  omega
theorem rn_svQ {a : Nat} (ha : a < 18446744073709551616) (h0 : mg a ≠ 0) (hf : mg a < 9218868437227405312) : rn false (sv a) = a := by
  have e : rung 52 0 (mv (mg a)) = mg a := rung_mag0 52 _ (by omega)
  have hm := mv_ne h0
  cases hn : ng a
  · have hs : sv a = (mv (mg a) : Int) := by unfold sv; rw [hn]; rfl
    have ea : mg a = a := mg_of_lt (lt_of_ng hn)
    rw [hs]
    generalize mv (mg a) = v at *
    unfold rn
    have c1 : ¬ ((v : Int) = 0) := by omega
    have c2 : ¬ ((v : Int) < 0) := by omega
    rw [if_neg c1, decide_eq_false c2, if_neg Bool.false_ne_true, Int.natAbs_natCast, e, Nat.min_eq_left (by omega), ea]
  · have hs : sv a = -(mv (mg a) : Int) := by unfold sv; rw [hn]; rfl
    have ea : 9223372036854775808 + mg a = a := by have := ge_of_ng hn; unfold mg; omega
    rw [hs]
    generalize mv (mg a) = v at *
    unfold rn
    have c1 : ¬ (-(v : Int) = 0) := by omega
    have c2 : (-(v : Int)) < 0 := by omega
    rw [if_neg c1, decide_eq_true c2, if_pos rfl, Int.natAbs_neg, Int.natAbs_natCast, e, Nat.min_eq_left (by omega), ea]
theorem sv_0 {a : Nat} (h : mg a = 0) : sv a = 0 := by unfold sv; rw [h, mv_0]; cases ng a <;> rfl
def ngtF (b : Nat) : Nat := bif ngF b then b - 9223372036854775808 else b + 9223372036854775808
theorem ngtF_eq (b : Nat) : ngtF b = negB b := by
  unfold ngtF negB
  rw [ngF_eq]
  cases ng b
  · rw [cond_false, if_neg Bool.false_ne_true]
  · rw [cond_true, if_pos rfl]
def fsb (a b : Nat) : Nat := frc a fun a => frc b fun b =>
  bif finF a && finF b && Nat.beq (mgF b) 0 then (bif Nat.beq (mgF a) 0 then 0 else a) else bif finF a && finF b && Nat.beq (mgF a) 0 then ngtF b else fsb1 a b
theorem fsb_eq (a b : Nat) : fsb a b = sbB a b := by
  unfold fsb
  simp only [frc_eq, fsb1_eq, ngtF_eq]
  have hs : finF a = true → finF b = true → sbB a b = rn false (sv a - sv b) := by
    intro h1 h2
    obtain ⟨a1, a2⟩ := finF_iff h1
    obtain ⟨b1, b2⟩ := finF_iff h2
    unfold sbB
    rw [addB_fin a _ a1 (negB_lt' b1) a2 (by rw [negB_mg b1]; exact b2), negB_sv b1, Int.sub_eq_add_neg]
  cases hb : (finF a && finF b && Nat.beq (mgF b) 0)
  · rw [cond_false]
    refine cond_eq fun h => ?_
    simp only [Bool.and_eq_true] at h
    obtain ⟨⟨h1, h2⟩, h3⟩ := h
    obtain ⟨b1, b2⟩ := finF_iff h2
    have z : mg a = 0 := by simpa [mgF_eq] using h3
    have nz : mg b ≠ 0 := by
      intro k
      rw [h1, h2, mgF_eq, k] at hb
      cases hb
    rw [hs h1 h2, sv_0 z, Int.zero_sub, ← negB_sv b1, rn_svQ (negB_lt' b1) (by rw [negB_mg b1]; exact nz) (by rw [negB_mg b1]; exact b2)]
  · rw [cond_true]
    simp only [Bool.and_eq_true] at hb
    obtain ⟨⟨h1, h2⟩, h3⟩ := hb
    obtain ⟨a1, a2⟩ := finF_iff h1
    have z : mg b = 0 := by simpa [mgF_eq] using h3
    rw [hs h1 h2, sv_0 z, Int.sub_zero]
    cases hc : Nat.beq (mgF a) 0
    · have nz : mg a ≠ 0 := by
        intro k
        rw [mgF_eq, k] at hc
        cases hc
      rw [cond_false, rn_svQ a1 nz a2]
    · have z2 : mg a = 0 := by simpa [mgF_eq] using hc
      rw [cond_true, sv_0 z2, rn_zero, if_neg Bool.false_ne_true]
/-- three numbers that are no less than nought, in their order -/
def fth (a b c : Nat) : Nat := frc a fun a => frc b fun b => frc c fun c => frc (loB a b) fun l => frc (hiB a b) fun h => frc (loB h c) fun m => fpl (fpl (loB l m) (hiB l m)) (hiB h c)
theorem fth_eq (a b c : Nat) : fth a b c = thB a b c := by unfold fth thB; simp only [frc_eq, fpl_eq]
/-- a root by Newton's way, then tried -/
def nwt (n r : Nat) : Nat := frc r fun r => frc ((r + n / r) / 2) fun r => frc ((r + n / r) / 2) fun r => frc ((r + n / r) / 2) fun r => frc ((r + n / r) / 2) fun r => frc ((r + n / r) / 2) fun r => (r + n / r) / 2
def isF (X : Nat) : Nat := frc (nwt X 27021597764222976) fun q => frc (bif Nat.ble (q * q) X then q else q - 1) fun r => bif Nat.ble (r * r) X && Nat.blt X ((r + 1) * (r + 1)) then r else isq X
theorem isq_uni {X r : Nat} (h1 : r * r ≤ X) (h2 : X < (r + 1) * (r + 1)) : r = isq X := by
  obtain ⟨a, b⟩ := isq_spec X
  generalize isq X = q at *
  rcases Nat.lt_trichotomy r q with h | h | h
  · have : (r + 1) * (r + 1) ≤ q * q := Nat.mul_le_mul h h
    omega
  · exact h
  · have : (q + 1) * (q + 1) ≤ r * r := Nat.mul_le_mul h h
    omega
theorem isF_eq (X : Nat) : isF X = isq X := by
  unfold isF
  simp only [frc_eq]
  refine cond_eq fun h => ?_
  rw [Bool.and_eq_true] at h
  exact isq_uni (by simpa using h.1) (by simpa using h.2)
def stF (X : Nat) : Nat := frc X fun X => frc (isF X) fun q => 2 * q + (bif Nat.beq (q * q) X then 0 else 1)
theorem stF_eq (X : Nat) : stF X = stW X := by
  unfold stF stW
  simp only [frc_eq, isF_eq]
  congr 1
  by_cases c : isq X * isq X = X
  · rw [show Nat.beq (isq X * isq X) X = true by simpa using c, show (isq X * isq X != X) = false by rw [bne_eq_false_iff_eq]; exact c]; rfl
  · rw [show Nat.beq (isq X * isq X) X = false by rw [Bool.eq_false_iff]; intro k; exact c (by simpa using k), show (isq X * isq X != X) = true from bne_iff_ne.2 c]; rfl
theorem sqrt_exp {T : Nat} (hT : T < 18446744073709551616) (hn : ng T = false) (h1 : 4503599627370496 ≤ mg T) (h2 : mg T < 9218868437227405312) :
    ∃ s d, (56 ≤ s ∧ s ≤ 57) ∧ mg T / 4503599627370496 - 1 + 1074 = s + (2 * d + 2) ∧ rtB T = rung 52 0 (stW ((4503599627370496 + mg T % 4503599627370496) <<< s) * 2 ^ d) := by
  have e1 := sqrt_eq hT hn h1 h2
  have hq : mg T % 4503599627370496 < 4503599627370496 := Nat.mod_lt _ (by omega)
  generalize hm : 4503599627370496 + mg T % 4503599627370496 = m at e1 ⊢
  have hl : m.log2 = 52 := by rw [← hm]; exact log_m _ hq
  have hk : mg T / 4503599627370496 - 1 ≤ 2045 := by omega
  generalize mg T / 4503599627370496 - 1 = k at e1 hk ⊢
  have hlp := d_lp
  generalize hi : double.leastPlace + (k : Int) = i at e1
  obtain ⟨m1, m2, m3, m4⟩ := rtM_val i hl
  generalize rtM m i = s at *
  obtain ⟨w1, w2⟩ := rtW_val (m := m) (s := s) (by omega) (by omega) ⟨m1, m2⟩
  have hst : rtW m s = stW (m <<< s) := rfl
  obtain ⟨d, hd⟩ : ∃ d : Nat, (i - (s : Int)) / 2 - 1 = double.leastPlace + (d : Int) := ⟨((i - (s : Int)) / 2 - 1 - double.leastPlace).toNat, by omega⟩
  have hdle : d ≤ 1531 := by omega
  have hks : k + K = s + (2 * d + 2) := by
    have : K = 1074 := rfl
    omega
  rw [nearest_up double false (rtW m s) d _ hd, d_word, d_inf] at e1
  generalize rtW m s = W at *
  have h0 : W * 2 ^ d ≠ 0 := Nat.mul_ne_zero (by omega) (by have := Nat.two_pow_pos d; omega)
  have hlog : 52 + 0 ≤ (W * 2 ^ d).log2 := by
    refine (Nat.le_log2 h0).2 ?_
    have e : (2 : Nat) ^ (52 + 0) = 4503599627370496 := by decide
    rw [e]
    have := Nat.two_pow_pos d
    exact Nat.le_trans (by omega) (Nat.le_mul_of_pos_right W this)
  have hb := rung_big hlog h0
  have hW57 : W ≤ 2 ^ 57 := by
    have e : (2 : Nat) ^ 57 = 144115188075855872 := by decide
    omega
  have hle := rung_E16 (le_E16 hW57 hdle)
  have hfb : double.fractionBits = 52 := rfl
  rw [hfb] at e1
  refine ⟨s, d, ⟨m1, m2⟩, ?_, ?_⟩
  · have : K = 1074 := rfl
    omega
  · rw [← hst]
    generalize rung 52 0 (W * 2 ^ d) = r at *
    simp only [Bool.false_eq_true, if_false] at e1
    rw [Nat.min_eq_left (by omega)] at e1
    have hmr : mg r = r := mg_of_lt (by omega)
    have c1 : canonB r = r := by unfold canonB; rw [if_neg (by rw [isN_true]; omega), if_neg (by omega)]
    rw [rtB_some e1, c1]
def frt (T : Nat) : Nat := frc T fun T =>
  bif nrmF T && Nat.blt T 9218868437227405312 && Nat.ble 100 (pe T) then nrmV (stF (pm T <<< (56 + pe T % 2))) ((pe T + 1074 - (56 + pe T % 2)) / 2 - 1) else rtB T
theorem frt_eq (T : Nat) : frt T = rtB T := by
  unfold frt
  simp only [frc_eq, nrmV_eq, stF_eq]
  refine cond_eq fun h => ?_
  simp only [Bool.and_eq_true] at h
  obtain ⟨⟨h1, h2⟩, h3⟩ := h
  obtain ⟨a1, a2, a3⟩ := nrmF_iff h1
  have h2 : T < 9218868437227405312 := by simpa using h2
  have h3 : 100 ≤ pe T := by simpa using h3
  obtain ⟨s, d, ⟨s1, s2⟩, hs, e⟩ := sqrt_exp a1 (ng_of_lt (by omega)) a2 a3
  rw [e]
  have hpe := pe_def T
  rw [hpe] at hs
  have es : 56 + pe T % 2 = s := by omega
  have ed : (pe T + 1074 - s) / 2 - 1 = d := by omega
  have hpm := pm_def T
  rw [es, ed, hpm]
theorem cw (c : Bool) (r : Nat) (h1 : 1 ≤ r) (h2 : r ≤ 9218868437227405312) : wdF c r = canonB (if c = true then 9223372036854775808 + r else r) := by
  cases c
  · have hm : mg r = r := mg_of_lt (by omega)
    unfold wdF canonB
    rw [cond_false, if_neg Bool.false_ne_true, if_neg (by rw [isN_true, hm]; omega), if_neg (by rw [hm]; omega)]
  · have hm : mg (9223372036854775808 + r) = r := by unfold mg; omega
    unfold wdF canonB
    rw [cond_true, if_pos rfl, if_neg (by rw [isN_true, hm]; omega), if_neg (by rw [hm]; omega)]
def fdq (m n : Nat) : Nat := frc (m <<< 54) fun p => frc n fun n => 2 * (p / n) + (bif Nat.beq (p % n) 0 then 0 else 1)
def fdv (a b : Nat) : Nat := frc a fun a => frc b fun b => frc (nrmV (fdq (pm a) (pm b)) (pe a + 1019 - pe b)) fun r =>
  bif nrmF a && nrmF b && Nat.ble (pe b) (pe a + 1019) && Nat.ble 1 r && Nat.ble r 9218868437227405312 then wdF (xor (ngF a) (ngF b)) r else dvB a b
theorem fdv_eq (a b : Nat) : fdv a b = dvB a b := by
  unfold fdv
  simp only [frc_eq, nrmV_eq]
  refine cond_eq fun h => ?_
  simp only [Bool.and_eq_true] at h
  obtain ⟨⟨⟨⟨h1, h2⟩, h3⟩, h4⟩, h5⟩ := h
  obtain ⟨a0, a1, a2⟩ := nrmF_iff h1
  obtain ⟨b0, b1, b2⟩ := nrmF_iff h2
  have h3 : pe b ≤ pe a + 1019 := by simpa using h3
  have h4 : 1 ≤ rung 52 0 (fdq (pm a) (pm b) * 2 ^ (pe a + 1019 - pe b)) := by simpa using h4
  have h5 : rung 52 0 (fdq (pm a) (pm b) * 2 ^ (pe a + 1019 - pe b)) ≤ 9218868437227405312 := by simpa using h5
  have hfd : ∀ m n, fdq m n = 2 * ((m <<< 54) / n) + ((m <<< 54) % n != 0).toNat := by
    intro m n
    unfold fdq
    simp only [frc_eq]
    by_cases c : (m <<< 54) % n = 0
    · have : Nat.beq ((m <<< 54) % n) 0 = true := by rw [c]; decide
      rw [this, show ((m <<< 54) % n != 0) = false by rw [c]; decide]; simp only [cond_true, Bool.toNat_false]
    · have : Nat.beq ((m <<< 54) % n) 0 = false := by rw [Bool.eq_false_iff]; intro k; exact c (by simpa using k)
      rw [this, show ((m <<< 54) % n != 0) = true from bne_iff_ne.2 c]; simp only [cond_false, Bool.toNat_true]
  have hd : double.div a b = some (double.nearest (sgn a ^^ sgn b) (fdq (pm a) (pm b)) (double.leastPlace + ((pe a + 1019 - pe b : Nat) : Int))) := by
    show ((double.read a).quotient 54 (double.read b)).map double.write = _
    rw [read_norm a1 a2, read_norm b1 b2, hfd]
    have l1 := log_m (mg a % 4503599627370496) (Nat.mod_lt _ (by omega))
    have l2 := log_m (mg b % 4503599627370496) (Nat.mod_lt _ (by omega))
    have hn : 4503599627370496 + mg b % 4503599627370496 ≠ 0 := by omega
    have hlp := d_lp
    have q1 := pm_def a
    have q2 := pm_def b
    have q3 := pe_def a
    have q4 := pe_def b
    rw [q1] at l1 ⊢
    rw [q2] at l2 hn ⊢
    rw [q3, q4]
    clear h4 h5 hfd q1 q2 q3 q4 h1 h2
    generalize pm a = m at *
    generalize pm b = n at *
    generalize pe a = x at *
    generalize pe b = y at *
    unfold Datum.quotient
    dsimp only
    rw [if_neg hn, l1, l2]
    simp only [Option.map_some, Format.write]
    have e : double.leastPlace + (x : Int) - (double.leastPlace + (y : Int)) - ((54 + 52 - 52 : Nat) : Int) - 1 = double.leastPlace + ((x + 1019 - y : Nat) : Int) := by omega
    rw [e]
  rw [dvB_some hd, nearest_up double _ _ _ _ rfl, d_word, d_inf, sgn_ng a0, sgn_ng b0, ngF_eq, ngF_eq, show double.fractionBits = 52 from rfl, Nat.min_eq_left h5]
  exact cw _ _ h4 h5
def fln (x y z : Nat) : Nat := frc x fun x => frc y fun y => frc z fun z => frt (fth (fml x x) (fml y y) (fml z z))
theorem fln_eq (x y z : Nat) : fln x y z = lnB x y z := by unfold fln lnB sqB; simp only [frc_eq, frt_eq, fth_eq, fml_eq]
def fBF (k : Int) : Nat := frc k.natAbs fun m => frc (nrmV m K) fun r => bif Nat.beq m 0 then 0 else bif Nat.ble r 9218868437227405312 then wdF (decide (k < 0)) r else fB k
theorem fBF_eq (k : Int) : fBF k = fB k := by
  unfold fBF
  simp only [frc_eq, nrmV_eq]
  by_cases c : k = 0
  · have : Nat.beq k.natAbs 0 = true := by rw [c]; decide
    rw [this, cond_true]
    have z : fB k = 0 := by rw [c]; decide +kernel
    rw [z]
  · have h0 : Nat.beq k.natAbs 0 = false := by rw [Bool.eq_false_iff]; intro q; have : k.natAbs = 0 := by simpa using q
                                               omega
    rw [h0, cond_false]
    refine cond_eq fun q => ?_
    have q : rung 52 0 (k.natAbs * 2 ^ K) ≤ 9218868437227405312 := by simpa using q
    unfold fB
    rw [one_pow]
    have hp := Nat.two_pow_pos K
    generalize 2 ^ K = P at *
    have hna : (k * (P : Int)).natAbs = k.natAbs * P := by rw [Int.natAbs_mul, Int.natAbs_natCast]
    have hz : ¬ k * (P : Int) = 0 := by
      intro h
      rcases Int.mul_eq_zero.1 h with h | h
      · exact c h
      · omega
    have hs : decide (k * (P : Int) < 0) = decide (k < 0) := by
      by_cases d : k < 0
      · rw [decide_eq_true d, decide_eq_true (Int.mul_neg_of_neg_of_pos d (by omega))]
      · rw [decide_eq_false d, decide_eq_false (by have : 0 ≤ k * (P : Int) := Int.mul_nonneg (by omega) (by omega)
                                                   omega)]
    unfold rn wdF
    rw [if_neg hz, hna, hs, Nat.min_eq_left q]
    cases decide (k < 0)
    · rw [cond_false, if_neg Bool.false_ne_true]
    · rw [cond_true, if_pos rfl]
def fqo (n : Nat) (k : Int) : Nat := bif decide (k = 0) && Nat.ble 1 n && Nat.ble n 32 then 0 else fdv (fBF k) (fBF n)
theorem fqo_eq (n : Nat) (k : Int) : fqo n k = qo n k := by
  unfold fqo
  rw [fdv_eq, fBF_eq, fBF_eq]
  refine cond_eq fun h => ?_
  simp only [Bool.and_eq_true, decide_eq_true_eq] at h
  obtain ⟨⟨h1, h2⟩, h3⟩ := h
  have h2 : 1 ≤ n := by simpa using h2
  have h3 : n ≤ 32 := by simpa using h3
  obtain ⟨b1, b2⟩ := fB_norm n (by omega) h2
  have z : fB k = 0 := by rw [h1]; decide +kernel
  rw [z, dvB_z _ b1 b2 0 (by decide)]
def lvF (l : Nat) : Bool := (Nat.ble 4503599627370496 l && Nat.blt l 9218868437227405312) || lvB l
theorem lvF_eq (l : Nat) : lvF l = lvB l := by
  unfold lvF
  cases h : (Nat.ble 4503599627370496 l && Nat.blt l 9218868437227405312)
  · rfl
  · rw [Bool.and_eq_true] at h
    have h1 : 4503599627370496 ≤ l := by simpa using h.1
    have h2 : l < 9218868437227405312 := by simpa using h.2
    have hm : mg l = l := mg_of_lt (by omega)
    rw [lv_class (by omega) (ng_of_lt (by omega))]
    unfold classB
    rw [hm, if_neg (by omega), if_neg (by omega), if_pos h2]
    rfl
def fun' (l x : Nat) : Nat := bif lvF l then (bif Nat.beq x 0 && Nat.ble 4503599627370496 l && Nat.blt l 9218868437227405312 then 0 else fdv x l) else 0
theorem fun_eq (l x : Nat) : fun' l x = unB l x := by
  unfold fun' unB
  rw [lvF_eq, fdv_eq]
  cases lvB l
  · rfl
  · rw [cond_true, if_pos rfl]
    refine cond_eq fun h => ?_
    simp only [Bool.and_eq_true] at h
    obtain ⟨⟨h1, h2⟩, h3⟩ := h
    have h1 : x = 0 := by simpa using h1
    have h2 : 4503599627370496 ≤ l := by simpa using h2
    have h3 : l < 9218868437227405312 := by simpa using h3
    have hm : mg l = l := mg_of_lt (by omega)
    rw [h1, dvB_z l (by rw [hm]; omega) (by rw [hm]; exact h3) 0 (by decide)]
/-- a point, quickly, handed on -/
def fpt {β : Type} (n : Nat) (k h : Int) (f : Nat → Nat → Nat → β) : β :=
  frc (fqo n n) fun a => frc (fqo n k) fun b => frc (fqo n h) fun c => frc (fln a b c) fun l => frc (fun' l a) fun x => frc (fun' l b) fun y => frc (fun' l c) fun z => f x y z
theorem fpt_eq {β : Type} (n : Nat) (k h : Int) (f : Nat → Nat → Nat → β) : fpt n k h f = f (px n (n, k, h)) (py n (n, k, h)) (pz n (n, k, h)) := by
  unfold fpt px py pz pL; simp only [frc_eq, fqo_eq, fln_eq, fun_eq]
/-- all numbers below n -/
def allB (p : Nat → Bool) : Nat → Bool
  | 0 => true
  | k + 1 => bif p k then allB p k else false
theorem allB_at {p : Nat → Bool} {n : Nat} (h : allB p n = true) : ∀ k, k < n → p k = true := by
  induction n with
  | zero => intro k hk; omega
  | succ n ih =>
    intro k hk
    have h' : (bif p n then allB p n else false) = true := h
    cases c : p n
    · rw [c, cond_false] at h'; cases h'
    · rw [c, cond_true] at h'
      by_cases e : k = n
      · rw [e]; exact c
      · exact ih h' k (by omega)
end Go.Proofs.YtpfoohpncbkkfaaDoor

namespace Go.Proofs.YtpfoohpncbkkfaaDoor
open Tf Ieee Cu
/-- two points' gap is above 0 and at most 2 -/
def gapP (n : Nat) (k h k' h' : Int) : Bool := fpt n k h fun x y z => fpt n k' h' fun x' y' z' => frc (fln (fsb x x') (fsb y y') (fsb z z')) fun l => Nat.ble 1 l && Nat.ble l 4611686018427387904
/-- the gap of two middles of a face -/
def gapN (n : Nat) : Bool := allB (fun i => allB (fun j => gapP n ((2 * i : Nat) - ((n + 1) % 2 : Nat) : Int) ((2 * j + (n + 1) % 2 : Nat) : Int) ((2 * i + 2 : Nat) - ((n + 1) % 2 : Nat) : Int) ((2 * j + (n + 1) % 2 : Nat) : Int)) ((n - 1 - (n + 1) % 2) / 2 + 1)) ((n - 1 + (n + 1) % 2) / 2)
/-- the gap of two middles over an edge -/
def overN (n : Nat) : Bool := allB (fun j => fpt n ((n : Int) - 1) ((2 * j + (n + 1) % 2 : Nat) : Int) fun x y z => frc (fln (fsb x y) (fsb y x) (fsb z z)) fun l => Nat.ble 1 l && Nat.ble l 4611686018427387904) ((n - 1 - (n + 1) % 2) / 2 + 1)
end Go.Proofs.YtpfoohpncbkkfaaDoor

namespace Go.Proofs.YtpfoohpncbkkfaaDoor
set_option maxRecDepth 100000 in
theorem gap_all : (allB (fun m => gapN (m + 1) && overN (m + 1)) 32) = true := by kernel_rfl
end Go.Proofs.YtpfoohpncbkkfaaDoor

namespace Go.Proofs.YtpfoohpncbkkfaaDoor
open Tf Ieee Cu
theorem gap_of {n : Nat} {k h k' h' : Int} (e : gapP n k h k' h' = true) : 1 ≤ gp n (n, k, h) (n, k', h') ∧ gp n (n, k, h) (n, k', h') ≤ 4611686018427387904 := by
  unfold gapP at e
  rw [fpt_eq, fpt_eq] at e
  simp only [frc_eq, fln_eq, fsb_eq, Bool.and_eq_true] at e
  unfold gp
  exact ⟨by simpa using e.1, by simpa using e.2⟩
theorem gp_s2 {n : Nat} (h1 : 1 ≤ n) (h2 : n ≤ 32) (a b c a' b' c' : Int) : gp n (a, -b, c) (a', -b', c') = gp n (a, b, c) (a', b', c') := by
  have e0 := gp_op h1 h2 (b, a, c) (b', a', c') 0
  have e2 := gp_op h1 h2 (b, a, c) (b', a', c') 2
  have e3 := gp_op h1 h2 (-b, a, c) (-b', a', c') 0
  have r0 : gp n (a, b, c) (a', b', c') = gp n (b, a, c) (b', a', c') := e0
  have r2 : gp n (-b, a, c) (-b', a', c') = gp n (b, a, c) (b', a', c') := e2
  have r3 : gp n (a, -b, c) (a', -b', c') = gp n (-b, a, c) (-b', a', c') := e3
  rw [r0, r3, r2]
theorem gp_s3 {n : Nat} (h1 : 1 ≤ n) (h2 : n ≤ 32) (a b c a' b' c' : Int) : gp n (a, b, -c) (a', b', -c') = gp n (a, b, c) (a', b', c') := by
  have e1 : gp n (a, -c, b) (a', -c', b') = gp n (a, b, -c) (a', b', -c') := gp_op h1 h2 (a, b, -c) (a', b', -c') 1
  have e2 : gp n (a, c, b) (a', c', b') = gp n (a, b, c) (a', b', c') := gp_op h1 h2 (a, b, c) (a', b', c') 1
  rw [← e1, gp_s2 h1 h2, e2]
theorem gap_nn {n h : Nat} {k : Int} (hn : 1 ≤ n ∧ n ≤ 32) (hh : h + 1 ≤ n) (ph : h % 2 = (n + 1) % 2) (k1 : -1 ≤ k) (k2 : k + 3 ≤ n) (pk : k % 2 = ((n : Int) + 1) % 2) :
    1 ≤ gp n (n, k, (h : Int)) (n, k + 2, (h : Int)) ∧ gp n (n, k, (h : Int)) (n, k + 2, (h : Int)) ≤ 4611686018427387904 := by
  have e := allB_at gap_all (n - 1) (by omega)
  rw [show n - 1 + 1 = n by omega, Bool.and_eq_true] at e
  have e := e.1
  unfold gapN at e
  obtain ⟨j, hj⟩ : ∃ j : Nat, ((2 * j : Nat) - ((n + 1) % 2 : Nat) : Int) = k := ⟨((k + ((n + 1) % 2 : Nat)) / 2).toNat, by omega⟩
  have e3 := allB_at e j (by omega)
  have e4 := allB_at e3 (h / 2) (by omega)
  have q1 : 2 * (h / 2) + (n + 1) % 2 = h := by omega
  have q2 : ((2 * j + 2 : Nat) - ((n + 1) % 2 : Nat) : Int) = k + 2 := by omega
  rw [q1, hj, q2] at e4
  exact gap_of e4
/-- the gap of two middles of face 0 -/
theorem gap_any {n : Nat} {k h : Int} (hn : 1 ≤ n ∧ n ≤ 32) (h1 : -n + 1 ≤ h) (h2 : h + 1 ≤ n) (ph : h % 2 = ((n : Int) + 1) % 2) (k1 : -n + 1 ≤ k) (k2 : k + 3 ≤ n) (pk : k % 2 = ((n : Int) + 1) % 2) :
    1 ≤ gp n (n, k, h) (n, k + 2, h) ∧ gp n (n, k, h) (n, k + 2, h) ≤ 4611686018427387904 := by
  have A : ∀ (k h : Int), 0 ≤ h → h + 1 ≤ n → h % 2 = ((n : Int) + 1) % 2 → -1 ≤ k → k + 3 ≤ n → k % 2 = ((n : Int) + 1) % 2 → 1 ≤ gp n (n, k, h) (n, k + 2, h) ∧ gp n (n, k, h) (n, k + 2, h) ≤ 4611686018427387904 := by
    intro k h a b c d e f
    obtain ⟨m, rfl⟩ := Int.eq_ofNat_of_zero_le a
    exact gap_nn hn (by omega) (by omega) d e f
  have B : ∀ (k h : Int), 0 ≤ h → h + 1 ≤ n → h % 2 = ((n : Int) + 1) % 2 → -n + 1 ≤ k → k + 3 ≤ n → k % 2 = ((n : Int) + 1) % 2 → 1 ≤ gp n (n, k, h) (n, k + 2, h) ∧ gp n (n, k, h) (n, k + 2, h) ≤ 4611686018427387904 := by
    intro k h a b c d e f
    by_cases g : -1 ≤ k
    · exact A k h a b c g e f
    · have q := A (-(k + 2)) h a b c (by omega) (by omega) (by omega)
      rw [show -(k + 2) + 2 = -k by omega, gp_s2 hn.1 hn.2, gp_comm] at q
      exact q
  by_cases g : 0 ≤ h
  · exact B k h g h2 ph k1 k2 pk
  · have q := B k (-h) (by omega) (by omega) (by omega) k1 k2 pk
    rw [gp_s3 hn.1 hn.2] at q
    exact q
theorem over_nn {n h : Nat} (hn : 1 ≤ n ∧ n ≤ 32) (hh : h + 1 ≤ n) (ph : h % 2 = (n + 1) % 2) :
    1 ≤ gp n (n, (n : Int) - 1, (h : Int)) ((n : Int) - 1, n, (h : Int)) ∧ gp n (n, (n : Int) - 1, (h : Int)) ((n : Int) - 1, n, (h : Int)) ≤ 4611686018427387904 := by
  have e := allB_at gap_all (n - 1) (by omega)
  rw [show n - 1 + 1 = n by omega, Bool.and_eq_true] at e
  have e := e.2
  unfold overN at e
  have e4 := allB_at e (h / 2) (by omega)
  have q1 : 2 * (h / 2) + (n + 1) % 2 = h := by omega
  rw [q1, fpt_eq] at e4
  simp only [frc_eq, fln_eq, fsb_eq, Bool.and_eq_true] at e4
  obtain ⟨o1, o2, o3⟩ := p_op0 hn.1 hn.2 ((n : Int), (n : Int) - 1, (h : Int))
  have hop : op8 0 ((n : Int), (n : Int) - 1, (h : Int)) = ((n : Int) - 1, (n : Int), (h : Int)) := rfl
  rw [hop] at o1 o2 o3
  unfold gp
  rw [o1, o2, o3]
  exact ⟨by simpa using e4.1, by simpa using e4.2⟩
theorem over_any {n : Nat} {h : Int} (hn : 1 ≤ n ∧ n ≤ 32) (h1 : -n + 1 ≤ h) (h2 : h + 1 ≤ n) (ph : h % 2 = ((n : Int) + 1) % 2) :
    1 ≤ gp n (n, (n : Int) - 1, h) ((n : Int) - 1, n, h) ∧ gp n (n, (n : Int) - 1, h) ((n : Int) - 1, n, h) ≤ 4611686018427387904 := by
  by_cases g : 0 ≤ h
  · obtain ⟨m, rfl⟩ := Int.eq_ofNat_of_zero_le g
    exact over_nn hn (by omega) (by omega)
  · obtain ⟨m, hm⟩ := Int.eq_ofNat_of_zero_le (show 0 ≤ -h by omega)
    have q := over_nn (h := m) hn (by omega) (by omega)
    rw [← hm, gp_s3 hn.1 hn.2] at q
    exact q
/-- every side may be turned to side 0 of face 0 -/
theorem turn_to : ∀ f < 6, ∀ s < 4, ∃ t, t < 24 ∧ tf t f = 0 ∧ (s + tq t f) % 4 = 0 := by decide +kernel
theorem GpC_le {n c s : Nat} (hn : 1 ≤ n ∧ n ≤ 32) (hc : c < 6 * n * n) (hs : s < 4) : 1 ≤ GpC n c s ∧ GpC n c s ≤ 4611686018427387904 := by
  have hf := (dec_lt hn.1 hc).1
  obtain ⟨t, ht, t1, t2⟩ := turn_to _ hf s hs
  obtain ⟨h1, -⟩ := turned_geo (k := c) hn.1 rfl hc hs ht hc
  rw [← gap_turn hn.1 hn.2 hc hs ht]
  have e : (s + tnS n t c) % 4 = 0 := t2
  have ef : cf n (tnC n t c) = 0 := by rw [(tn_dec hn.1 hc ht).1]; exact t1
  have h2 := h1.1
  obtain ⟨-, d2, d3, -⟩ := dec_lt hn.1 h2
  rw [e]
  clear h1 hc hf t1 t2 e
  generalize tnC n t c = c' at *
  have k1 : MD n c' = ((n : Int), 2 * ((ci n c' : Nat) : Int) + 1 - n, 2 * ((cj n c' : Nat) : Int) + 1 - n) := by
    unfold MD; rw [ef]; simp [md, pl, sc, cC, cR, cU]
  unfold GpC
  obtain ⟨f, a, b, hf, ha, hb, rfl⟩ := Pn_ex hn.1 h2 (show 0 < 4 by omega)
  obtain ⟨m1, m2⟩ := MD_Pn hf (show 0 < 4 by omega) ha hb
  rw [m2] at ef
  subst ef
  have b1 := (bs_Pn (n := n) (f := 0) (show 0 < 4 by omega) ha hb).1
  rw [b1, m1]
  by_cases g : a + 1 < n
  · rw [if_pos g, (MD_Pn hf (show 0 < 4 by omega) g hb).1]
    have q1 : ms n 0 0 a b = ((n : Int), 2 * (a : Int) + 1 - n, 2 * (b : Int) + 1 - n) := by simp [ms, pl, sc, cC, cR, cU, wy]
    have q2 : ms n 0 0 (a + 1) b = ((n : Int), 2 * (a : Int) + 1 - n + 2, 2 * (b : Int) + 1 - n) := by simp [ms, pl, sc, cC, cR, cU, wy]; omega
    rw [q1, q2]
    exact gap_any hn (by omega) (by omega) (by omega) (by omega) (by omega) (by omega)
  · obtain ⟨f1, f2⟩ := nf_lt 0 (by omega) 0 (by omega)
    rw [if_neg g, (MD_Pn f1 f2 (show 0 < n by omega) hb).1]
    have q1 : ms n 0 0 a b = ((n : Int), (n : Int) - 1, 2 * (b : Int) + 1 - n) := by simp [ms, pl, sc, cC, cR, cU, wy]; omega
    have q2 : ms n (nf 0 0) (ns 0 0) 0 b = ((n : Int) - 1, (n : Int), 2 * (b : Int) + 1 - n) := by simp [ms, pl, sc, cC, cR, cU, wy, nf, ns]; omega
    rw [q1, q2]
    exact over_any hn (by omega) (by omega) (by omega)
/-- the area of the cell of face 0 -/
def a0 (n : Nat) (k h : Int) : Nat := ar n (n, k, h) (n, k + 2, h) (n, k + 2, h + 2) (n, k, h + 2)
end Go.Proofs.YtpfoohpncbkkfaaDoor

namespace Go.Proofs.YtpfoohpncbkkfaaDoor
open Go.ChangeShapes Go.WideShapes Go.ChangeAt Go.WideMaps Go.WideElems Go.RowKit Go.Deep
/-- a list of whole numbers lies there -/
def IsIn (w : World) (a0 : Option Addr) (len : Nat) (xs : Nat → Int) : Prop := ∀ k, k < len → (-9223372036854775808 ≤ xs k ∧ xs k ≤ 9223372036854775807) ∧ ∃ b o, a0 = some ⟨b, o, none⟩ ∧ b < w.heap.size ∧ w.cell? ⟨b, o + k, none⟩ = some (.int .i64 (xs k))
theorem IsIn.below {w w' : World} {a0 : Option Addr} {len : Nat} {xs : Nat → Int} (h : IsIn w a0 len xs) (hb : Below w.heap.size w w') : IsIn w' a0 len xs := by
  intro k hk
  obtain ⟨h1, b, o, h2, h3, h4⟩ := h k hk
  exact ⟨h1, b, o, h2, Nat.lt_of_lt_of_le h3 hb.size, by rw [hb.cell (p := ⟨b, o + k, none⟩) h3]; exact h4⟩
theorem trod_flt0 {H : Type} {enc : TypeId × Value → H} {P : Program} {w : World} {base : Nat} {spare : Nat → Bool} {held : Bool} {t : TypeId} {fuel : Nat} {v : Value} {x : DataW H × List MemPlace} (ht : P.underlying t = some (.float .f64)) (h : DataW.trod enc P w base spare held fuel t [v] = some x) :
    ∃ b, v = .float .f64 b ∧ (Lit.float .f64 b).wf = true := by
  cases fuel with
  | zero => simp [DataW.trod] at h
  | succ n =>
    unfold DataW.trod at h
    rw [ht] at h
    split at h <;> simp_all
theorem trod_flt12 {H : Type} {enc : TypeId × Value → H} {P : Program} {w : World} {base : Nat} {spare : Nat → Bool} {held : Bool} {t : TypeId} {fuel : Nat} {v : Value} {x : DataW H × List MemPlace} (ht : P.underlying t = some (.float .f64)) (h : DataW.trod enc P w base spare held fuel t [v] = some x) :
    ∃ b, v = .float .f64 b ∧ b < 18446744073709551616 := by
  obtain ⟨k, e, wf⟩ := trod_flt0 ht h
  exact ⟨k, e, by simpa [Lit.wf] using wf⟩
theorem trod_int12 {H : Type} {enc : TypeId × Value → H} {P : Program} {w : World} {base : Nat} {spare : Nat → Bool} {held : Bool} {t : TypeId} {fuel : Nat} {v : Value} {x : DataW H × List MemPlace} (ht : P.underlying t = some (.int .i64)) (h : DataW.trod enc P w base spare held fuel t [v] = some x) :
    ∃ b, v = .int .i64 b ∧ (-9223372036854775808 ≤ b ∧ b ≤ 9223372036854775807) := by
  obtain ⟨k, e, _, wf⟩ := DataW.trod_int ht h
  simp at e
  simp only [Lit.wf, Bool.and_eq_true, decide_eq_true_eq] at wf
  have q1 : IntKind.i64.min = -9223372036854775808 := by decide
  have q2 : IntKind.i64.max = 9223372036854775807 := by decide
  rw [q1, q2] at wf
  exact ⟨k, e, wf⟩
theorem add_off12 (b off j : Nat) : (⟨b, off, none⟩ : Addr).add j = ⟨b, off + j, none⟩ := by
  by_cases c : j = 0
  · subst c; simp [Addr.add]
  · simp [Addr.add, c]
theorem cell_block12 {w : World} {a : Addr} {v : Value} (h : w.cell? a = some v) : a.block < w.heap.size := by
  by_cases c : a.block < w.heap.size
  · exact c
  · exfalso
    have : w.heap[a.block]? = none := by simp; omega
    simp [World.cell?, this] at h
theorem pick_fn {α : Type} {n : Nat} {R : Nat → α → Prop} (d : α) (h : ∀ i, i < n → ∃ x, R i x) : ∃ f : Nat → α, ∀ i, i < n → R i (f i) := by
  have : ∀ i, ∃ x, i < n → R i x := fun i => by
    by_cases c : i < n
    · obtain ⟨x, h1⟩ := h i c
      exact ⟨x, fun _ => h1⟩
    · exact ⟨d, fun h => absurd h c⟩
  exact ⟨fun i => (this i).choose, fun i hi => (this i).choose_spec hi⟩
theorem fl_open12 {H : Type} {enc : TypeId × Value → H} {W : World} {cs : List Value} {fuel : Nat} {x : DataW H × List MemPlace}
    (hf : DataW.trod enc Tryd.prog W 0 (fun _ => true) true fuel 26 cs = some x) : ∃ a0 len cap xs, cs = [.slice a0 len cap] ∧ IsFl W a0 len xs ∧ len ≤ cap ∧ cap ≤ maxLen := by
  rcases open_slice1 Tryd.underlying26 (by kernel_rfl) hf with ⟨hcs, _⟩ | ⟨a, l, c, m, n, V, D, Pl, hcs, _, hl, hm, hmm, _, hx⟩
  · exact ⟨none, 0, 0, fun _ => 0, hcs, fun k hk => by omega, Nat.le_refl _, Nat.zero_le _⟩
  · simp only [if_true] at hmm
    have each : ∀ i, i < l → ∃ x : Nat, W.cell? (a.add i) = some (.float .f64 x) ∧ x < 18446744073709551616 := by
      intro i hi
      obtain ⟨h1, h2⟩ := hx i (by omega)
      obtain ⟨x, e, wx⟩ := trod_flt12 Tryd.underlying22 h2
      rw [e] at h1
      exact ⟨x, h1, wx⟩
    obtain ⟨f, hf⟩ := pick_fn 0 each
    refine ⟨some a, l, c, f, hcs, fun k hk => ⟨(hf k hk).2, ?_⟩, hl, hm⟩
    have h0 := (hf k hk).1
    have z := (hf 0 (by omega)).1
    obtain ⟨b, off, spot⟩ := a
    have hspot : spot = none := by simpa [Addr.add] using World.cell?_spot z
    subst hspot
    rw [add_off12] at h0
    exact ⟨b, off, rfl, cell_block12 h0, h0⟩
theorem in_open12 {H : Type} {enc : TypeId × Value → H} {W : World} {cs : List Value} {fuel : Nat} {x : DataW H × List MemPlace}
    (hf : DataW.trod enc Tryd.prog W 0 (fun _ => true) true fuel 27 cs = some x) : ∃ a0 len cap xs, cs = [.slice a0 len cap] ∧ IsIn W a0 len xs ∧ len ≤ cap ∧ cap ≤ maxLen := by
  rcases open_slice1 Tryd.underlying27 (by kernel_rfl) hf with ⟨hcs, _⟩ | ⟨a, l, c, m, n, V, D, Pl, hcs, _, hl, hm, hmm, _, hx⟩
  · exact ⟨none, 0, 0, fun _ => 0, hcs, fun k hk => by omega, Nat.le_refl _, Nat.zero_le _⟩
  · simp only [if_true] at hmm
    have each : ∀ i, i < l → ∃ x : Int, W.cell? (a.add i) = some (.int .i64 x) ∧ (-9223372036854775808 ≤ x ∧ x ≤ 9223372036854775807) := by
      intro i hi
      obtain ⟨h1, h2⟩ := hx i (by omega)
      obtain ⟨x, e, wx⟩ := trod_int12 Tryd.underlying2 h2
      rw [e] at h1
      exact ⟨x, h1, wx⟩
    obtain ⟨f, hf⟩ := pick_fn 0 each
    refine ⟨some a, l, c, f, hcs, fun k hk => ⟨(hf k hk).2, ?_⟩, hl, hm⟩
    have h0 := (hf k hk).1
    have z := (hf 0 (by omega)).1
    obtain ⟨b, off, spot⟩ := a
    have hspot : spot = none := by simpa [Addr.add] using World.cell?_spot z
    subst hspot
    rw [add_off12] at h0
    exact ⟨b, off, rfl, cell_block12 h0, h0⟩
/-- a sea's lists, as a walk is told of them -/
structure SeaAt (w : World) (pb : Option Addr) (lb cb : Nat) (B : Nat → Nat) (pw : Option Addr) (lw cw : Nat) (Wt : Nat → Int) (pt : Option Addr) (lt ct : Nat) (Tr : Nat → Int) (ps : Option Addr) (ls cs : Nat) (Sp : Nat → Nat) : Prop where
  bed : IsFl w pb lb B
  water : IsIn w pw lw Wt
  tracer : IsIn w pt lt Tr
  speed : IsFl w ps ls Sp
  lens : (lb ≤ cb ∧ cb ≤ maxLen) ∧ (lw ≤ cw ∧ cw ≤ maxLen) ∧ (lt ≤ ct ∧ ct ≤ maxLen) ∧ (ls ≤ cs ∧ cs ≤ maxLen)
theorem SeaAt.to {w w' : World} {pb : Option Addr} {lb cb : Nat} {B : Nat → Nat} {pw : Option Addr} {lw cw : Nat} {Wt : Nat → Int} {pt : Option Addr} {lt ct : Nat} {Tr : Nat → Int} {ps : Option Addr} {ls cs : Nat} {Sp : Nat → Nat} (h : SeaAt w pb lb cb B pw lw cw Wt pt lt ct Tr ps ls cs Sp) (a : Ab w w') : SeaAt w' pb lb cb B pw lw cw Wt pt lt ct Tr ps ls cs Sp :=
  ⟨h.bed.below a, h.water.below a, h.tracer.below a, h.speed.below a, h.lens⟩
set_option maxRecDepth 100000 in
theorem sea_cells {H : Type} {enc : TypeId × Value → H} {W : World} {n : Nat} {v0 v1 v2 v3 v4 v5 : Value} {x : DataW H × List MemPlace} (h : DataW.trod enc Tryd.prog W 0 (fun _ => true) true n 29 [v0, v1, v2, v3, v4, v5] = some x) :
    ∃ pb lb cb B pw lw cw Wt pt lt ct Tr ps ls cs Sp sky st, (v0 = .slice pb lb cb ∧ v1 = .slice pw lw cw ∧ v2 = .slice pt lt ct ∧ v3 = .slice ps ls cs ∧ v4 = .int .i64 sky ∧ v5 = .int .i64 st) ∧ SeaAt W pb lb cb B pw lw cw Wt pt lt ct Tr ps ls cs Sp := by
  have k0 : Tryd.prog.cellsOf 26 = 1 := by kernel_rfl
  have k1 : Tryd.prog.cellsOf 27 = 1 := by kernel_rfl
  have k2 : Tryd.prog.cellsOf 2 = 1 := by kernel_rfl
  have k3 : Tryd.prog.cellsOf 3 = 1 := by kernel_rfl
  obtain ⟨xs, m, _, hx, hlen, hn, hel⟩ := DataW.trod_struct Tryd.underlying29 h
  match xs, hn with
  | [x0, x1, x2, x3, x4, x5], _ =>
    have h0 := hel 0 _ rfl
    have h1 := hel 1 _ rfl
    have h2 := hel 2 _ rfl
    have h3 := hel 3 _ rfl
    have h4 := hel 4 _ rfl
    have h5 := hel 5 _ rfl
    simp [k0, k1, k2, k3] at h0 h1 h2 h3 h4 h5
    obtain ⟨pb, lb, cb, B, e0, i0, j0⟩ := fl_open12 h0
    obtain ⟨pw, lw, cw, Wt, e1, i1, j1⟩ := in_open12 h1
    obtain ⟨pt, lt, ct, Tr, e2, i2, j2⟩ := in_open12 h2
    obtain ⟨ps, ls, cs, Sp, e3, i3, j3⟩ := fl_open12 h3
    obtain ⟨sky, e4, _⟩ := trod_int12 Tryd.underlying2 h4
    obtain ⟨st, e5, _⟩ := trod_int12 Tryd.underlying3 h5
    simp at e0 e1 e2 e3
    exact ⟨pb, lb, cb, B, pw, lw, cw, Wt, pt, lt, ct, Tr, ps, ls, cs, Sp, sky, st, ⟨e0, e1, e2, e3, e4, e5⟩, ⟨i0, i1, i2, i3, j0, j1, j2, j3⟩⟩
end Go.Proofs.YtpfoohpncbkkfaaDoor

namespace Go.Proofs.YtpfoohpncbkkfaaDoor
open Go.RowKit Go.Deep
theorem size1 (W : World) (A : Obj) : (W.alloc A).heap.size = W.heap.size + 1 := by
  show (W.heap.push A).size = _
  simp
theorem made_row {v : World} {g n : Nat} {z : Value} {T : TypeId} (h : v.heap[g]? = some (Obj.cells (madeCells #[z] n) T)) : v.rowIs g T n (fun _ => z) := by
  have e := World.rowIs_made v z n T
  have l := heap_alloc_new v (Obj.cells (madeCells #[z] n) T)
  obtain ⟨c, h1, h2⟩ := e
  rw [l] at h1
  exact ⟨c, h.trans h1, h2⟩
theorem row6 {w : World} {g : Nat} {a b c d e f x y z p q r : Value} {T : TypeId} (h : w.heap[g]? = some (.cells #[a, b, c, d, e, f] T)) :
    ((((((w.setCell ⟨g, 0, none⟩ x).setCell ⟨g, 1, none⟩ y).setCell ⟨g, 2, none⟩ z).setCell ⟨g, 3, none⟩ p).setCell ⟨g, 4, none⟩ q).setCell ⟨g, 5, none⟩ r).heap[g]? = some (.cells #[x, y, z, p, q, r] T) := by
  have h1 := one_set (v := x) (k := 0) h
  have h2 := one_set (v := y) (k := 1) h1
  have h3 := one_set (v := z) (k := 2) h2
  have h4 := one_set (v := p) (k := 3) h3
  have h5 := one_set (v := q) (k := 4) h4
  have h6 := one_set (v := r) (k := 5) h5
  simpa using h6
theorem heap_set_ne {v : World} {b k g : Nat} {x : Value} (h : g ≠ b) : (v.setCell ⟨b, k, none⟩ x).heap[g]? = v.heap[g]? := blk_setCell_other _ _ _ _ h
end Go.Proofs.YtpfoohpncbkkfaaDoor

namespace Go.Proofs.YtpfoohpncbkkfaaDoor
open Go.RowKit Tf Cu Go.Deep
/-- a sea of the call's own in block g, its lists in blocks bB and bW: fb and fw lie there -/
def OwnSea (W : World) (g bB bW M : Nat) (r : Array Value) (fb : Nat → Nat) (fw : Nat → Int) (v : World) : Prop :=
  Ab W v ∧ v.heap[g]? = some (.cells r 29) ∧ v.rowIs bB 22 M (fun i => .float .f64 (fb i)) ∧ v.rowIs bW 2 M (fun i => .int .i64 (fw i))
theorem OwnSea.to {W : World} {g bB bW M : Nat} {r : Array Value} {fb : Nat → Nat} {fw : Nat → Int} {v v' : World} (h : OwnSea W g bB bW M r fb fw v) (a : Ab v v') : OwnSea W g bB bW M r fb fw v' :=
  ⟨h.1.trans a, a.heap h.2.1, rowIs.ab h.2.2.1 a, rowIs.ab h.2.2.2 a⟩
end Go.Proofs.YtpfoohpncbkkfaaDoor
