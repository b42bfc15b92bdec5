/-
  Some of the texts of this proof, one behind the other.
-/
import Derived.Test.YtomenbbhdnfciaaGreatDoorRows
import Derived.Deep.Draws
import Derived.Test.YtomenbbhdnfciaaGreatDoorA03
namespace Go.Proofs.YtomenbbhdnfciaaGreatDoor
open Tf Ieee

theorem tri {a b : Nat} (ha : a < 18446744073709551616) (hb : b < 18446744073709551616) : (key a < key b ∧ ¬ key b < key a) ∨ a = b ∨ (key b < key a ∧ ¬ key a < key b) := by
  rcases Nat.lt_trichotomy (key a) (key b) with h | h | h
  · exact .inl ⟨h, by omega⟩
  · exact .inr (.inl (key_inj ha hb h))
  · exact .inr (.inr ⟨h, by omega⟩)
theorem thB_23 {a b c : Nat} (ha : a < 18446744073709551616) (hb : b < 18446744073709551616) (hc : c < 18446744073709551616) : thB a b c = thB a c b := by
  rcases tri ha hb with ⟨h1, h1'⟩ | h1 | ⟨h1, h1'⟩ <;> rcases tri ha hc with ⟨h2, h2'⟩ | h2 | ⟨h2, h2'⟩ <;> rcases tri hb hc with ⟨h3, h3'⟩ | h3 | ⟨h3, h3'⟩
  all_goals first
    | (exfalso; omega)
    | (clear ha hb hc; simp [thB, loB, hiB, *]; done)
    | (clear ha hb hc; subst_vars; first | rfl | (simp [thB, loB, hiB, *]; done))
/-- the three in order -/
theorem th_perm (a b c : Nat) : ∃ u v z, thB a b c = plB (plB u v) z ∧ ((u = a ∧ v = b ∧ z = c) ∨ (u = a ∧ v = c ∧ z = b) ∨ (u = b ∧ v = a ∧ z = c) ∨ (u = b ∧ v = c ∧ z = a) ∨ (u = c ∧ v = a ∧ z = b) ∨ (u = c ∧ v = b ∧ z = a)) := by
  unfold thB
  by_cases k1 : key b < key a
  · have lk1 : loB a b = b := by unfold loB; rw [if_pos k1]
    have gk1 : hiB a b = a := by unfold hiB; rw [if_pos k1]
    rw [lk1, gk1]
    by_cases k2 : key c < key a
    · have lk2 : loB a c = c := by unfold loB; rw [if_pos k2]
      have gk2 : hiB a c = a := by unfold hiB; rw [if_pos k2]
      rw [lk2, gk2]
      by_cases k3 : key c < key b
      · have lk3 : loB b c = c := by unfold loB; rw [if_pos k3]
        have gk3 : hiB b c = b := by unfold hiB; rw [if_pos k3]
        rw [lk3, gk3]
        exact ⟨_, _, _, rfl, by simp⟩
      · have lk3 : loB b c = b := by unfold loB; rw [if_neg k3]
        have gk3 : hiB b c = c := by unfold hiB; rw [if_neg k3]
        rw [lk3, gk3]
        exact ⟨_, _, _, rfl, by simp⟩
    · have lk2 : loB a c = a := by unfold loB; rw [if_neg k2]
      have gk2 : hiB a c = c := by unfold hiB; rw [if_neg k2]
      rw [lk2, gk2]
      by_cases k3 : key a < key b
      · have lk3 : loB b a = a := by unfold loB; rw [if_pos k3]
        have gk3 : hiB b a = b := by unfold hiB; rw [if_pos k3]
        rw [lk3, gk3]
        exact ⟨_, _, _, rfl, by simp⟩
      · have lk3 : loB b a = b := by unfold loB; rw [if_neg k3]
        have gk3 : hiB b a = a := by unfold hiB; rw [if_neg k3]
        rw [lk3, gk3]
        exact ⟨_, _, _, rfl, by simp⟩
  · have lk1 : loB a b = a := by unfold loB; rw [if_neg k1]
    have gk1 : hiB a b = b := by unfold hiB; rw [if_neg k1]
    rw [lk1, gk1]
    by_cases k2 : key c < key b
    · have lk2 : loB b c = c := by unfold loB; rw [if_pos k2]
      have gk2 : hiB b c = b := by unfold hiB; rw [if_pos k2]
      rw [lk2, gk2]
      by_cases k3 : key c < key a
      · have lk3 : loB a c = c := by unfold loB; rw [if_pos k3]
        have gk3 : hiB a c = a := by unfold hiB; rw [if_pos k3]
        rw [lk3, gk3]
        exact ⟨_, _, _, rfl, by simp⟩
      · have lk3 : loB a c = a := by unfold loB; rw [if_neg k3]
        have gk3 : hiB a c = c := by unfold hiB; rw [if_neg k3]
        rw [lk3, gk3]
        exact ⟨_, _, _, rfl, by simp⟩
    · have lk2 : loB b c = b := by unfold loB; rw [if_neg k2]
      have gk2 : hiB b c = c := by unfold hiB; rw [if_neg k2]
      rw [lk2, gk2]
      by_cases k3 : key b < key a
      · have lk3 : loB a b = b := by unfold loB; rw [if_pos k3]
        have gk3 : hiB a b = a := by unfold hiB; rw [if_pos k3]
        rw [lk3, gk3]
        exact ⟨_, _, _, rfl, by simp⟩
      · have lk3 : loB a b = a := by unfold loB; rw [if_neg k3]
        have gk3 : hiB a b = b := by unfold hiB; rw [if_neg k3]
        rw [lk3, gk3]
        exact ⟨_, _, _, rfl, by simp⟩
theorem negB_lt' {x : Nat} (hx : x < 18446744073709551616) : negB x < 18446744073709551616 := by
  unfold negB
  cases h : ng x
  · have := lt_of_ng h; simp; omega
  · simp; omega
theorem negB_mg {x : Nat} (hx : x < 18446744073709551616) : mg (negB x) = mg x := by
  unfold negB
  cases h : ng x
  · have := lt_of_ng h; simp [mg]
  · have := ge_of_ng h; simp [mg]; omega
theorem negB_ng {x : Nat} (hx : x < 18446744073709551616) : ng (negB x) = !ng x := by
  unfold negB
  cases h : ng x
  · simp [ng]
  · have := ge_of_ng h; simp [ng]; omega
theorem negB_negB' {x : Nat} (hx : x < 18446744073709551616) : negB (negB x) = x := by
  have h := negB_ng hx
  unfold negB at *
  cases k : ng x
  · rw [k] at h; simp only [Bool.false_eq_true, if_false] at h ⊢; rw [h]; simp
  · have := ge_of_ng k
    rw [k] at h; simp only [if_true] at h ⊢; rw [h]; simp; omega
theorem negB_sv {x : Nat} (hx : x < 18446744073709551616) : sv (negB x) = -sv x := by
  unfold sv
  rw [negB_ng hx, negB_mg hx]
  cases ng x <;> simp
theorem negB_isN {x : Nat} (hx : x < 18446744073709551616) : isN (negB x) = isN x := by unfold isN; rw [negB_mg hx]
theorem read_neg (x : Nat) (hx : x < 18446744073709551616) : double.read (negB x) = (double.read x).opposite := by
  have h1 : negB x % 9223372036854775808 = x % 9223372036854775808 := negB_mg hx
  have h2 : (negB x / 9223372036854775808 % 2 == 1) = !(x / 9223372036854775808 % 2 == 1) := by
    unfold negB
    cases k : ng x
    · have := lt_of_ng k
      rw [show x / 9223372036854775808 = 0 by omega]
      simp only [Bool.false_eq_true, if_false]
      rw [show (x + 9223372036854775808) / 9223372036854775808 = 1 by omega]
      rfl
    · have := ge_of_ng k
      rw [show x / 9223372036854775808 = 1 by omega]
      simp only [if_true]
      rw [show (x - 9223372036854775808) / 9223372036854775808 = 0 by omega]
      rfl
  unfold Format.read
  simp only [d_sw]
  rw [h1, h2]
  generalize x % 9223372036854775808 = r
  generalize (x / 9223372036854775808 % 2 == 1) = s
  by_cases a : r < double.binade
  · rw [if_pos a, if_pos a]; rfl
  · rw [if_neg a, if_neg a]
    by_cases b : r < double.infRung
    · rw [if_pos b, if_pos b]; rfl
    · rw [if_neg b, if_neg b]
      by_cases c : r = double.infRung
      · rw [if_pos c, if_pos c]; rfl
      · rw [if_neg c, if_neg c]; rfl
theorem sub_add (a b : Nat) (hb : b < 18446744073709551616) : double.sub a b = double.add a (negB b) := by
  unfold Format.sub Format.add; rw [read_neg b hb]
theorem mul_negneg (a b : Nat) (ha : a < 18446744073709551616) (hb : b < 18446744073709551616) : double.mul (negB a) (negB b) = double.mul a b := by
  unfold Format.mul
  rw [read_neg a ha, read_neg b hb]
  cases double.read a <;> cases double.read b <;> simp [Datum.opposite, Datum.product]
theorem mul_comm (a b : Nat) : double.mul a b = double.mul b a := by
  unfold Format.mul
  cases double.read a <;> cases double.read b <;> simp [Datum.product, Bool.xor_comm, Nat.mul_comm, Int.add_comm]
theorem addB_comm (a b : Nat) (ha : a < 18446744073709551616) (hb : b < 18446744073709551616) : addB a b = addB b a := by
  rcases three a with h1 | h1 | h1
  · rcases three b with h2 | h2 | h2
    · rw [addB_fin a b ha hb h1 h2, addB_fin b a hb ha h2 h1, Int.add_comm]
    · rw [addB_some (add_fi a b hb h1 h2), addB_some (add_if b a hb h2 h1)]
    · rw [addB_none (add_nan a b (.inr h2)), addB_none (add_nan b a (.inl h2))]
  · rcases three b with h2 | h2 | h2
    · rw [addB_some (add_if a b ha h1 h2), addB_some (add_fi b a ha h2 h1)]
    · have e1 := add_ii a b ha hb h1 h2
      have e2 := add_ii b a hb ha h2 h1
      by_cases c : ng a = ng b
      · rw [if_pos c] at e1
        rw [if_pos c.symm] at e2
        rw [addB_some e1, addB_some e2, c]
      · rw [if_neg c] at e1
        rw [if_neg (fun h => c h.symm)] at e2
        rw [addB_none e1, addB_none e2]
    · rw [addB_none (add_nan a b (.inr h2)), addB_none (add_nan b a (.inl h2))]
  · rw [addB_none (add_nan a b (.inl h1)), addB_none (add_nan b a (.inr h1))]
theorem canon_neg_quiet : canonB (negB quiet) = quiet := by decide
theorem canon_neg_inf (s : Bool) : canonB (negB (canonB (infW s))) = canonB (infW (!s)) := by cases s <;> decide
/-- opposites add up to the opposite -/
theorem addB_neg (a b : Nat) (ha : a < 18446744073709551616) (hb : b < 18446744073709551616) : addB (negB a) (negB b) = canonB (negB (addB a b)) := by
  have na := negB_lt' ha
  have nb := negB_lt' hb
  have ma := negB_mg ha
  have mb := negB_mg hb
  rcases three a with h1 | h1 | h1
  · rcases three b with h2 | h2 | h2
    · rw [addB_fin a b ha hb h1 h2, addB_fin _ _ na nb (by rw [ma]; exact h1) (by rw [mb]; exact h2), negB_sv ha, negB_sv hb, rn_negv, Int.neg_add]
    · rw [addB_some (add_fi a b hb h1 h2), addB_some (add_fi _ _ nb (by rw [ma]; exact h1) (by rw [mb]; exact h2)), negB_ng hb, canon_neg_inf]
    · rw [addB_none (add_nan a b (.inr h2)), addB_none (add_nan _ _ (.inr (by rw [negB_isN hb]; exact h2))), canon_neg_quiet]
  · rcases three b with h2 | h2 | h2
    · rw [addB_some (add_if a b ha h1 h2), addB_some (add_if _ _ na (by rw [ma]; exact h1) (by rw [mb]; exact h2)), negB_ng ha, canon_neg_inf]
    · have e1 := add_ii a b ha hb h1 h2
      have e2 := add_ii _ _ na nb (by rw [ma]; exact h1) (by rw [mb]; exact h2)
      rw [negB_ng ha, negB_ng hb] at e2
      by_cases c : ng a = ng b
      · rw [if_pos c] at e1
        rw [if_pos (by rw [c])] at e2
        rw [addB_some e1, addB_some e2, canon_neg_inf]
      · rw [if_neg c] at e1
        rw [if_neg (by simpa using c)] at e2
        rw [addB_none e1, addB_none e2, canon_neg_quiet]
    · rw [addB_none (add_nan a b (.inr h2)), addB_none (add_nan _ _ (.inr (by rw [negB_isN hb]; exact h2))), canon_neg_quiet]
  · rw [addB_none (add_nan a b (.inl h1)), addB_none (add_nan _ _ (.inl (by rw [negB_isN ha]; exact h1))), canon_neg_quiet]

/-- a difference, in the one form -/
def sbB (a b : Nat) : Nat := addB a (negB b)
theorem sbB_lt {a b : Nat} (ha : a < 18446744073709551616) (hb : b < 18446744073709551616) : sbB a b < 18446744073709551616 := addB_lt a _ ha (negB_lt' hb)
theorem sbB_anti {a b : Nat} (ha : a < 18446744073709551616) (hb : b < 18446744073709551616) : sbB b a = canonB (negB (sbB a b)) := by
  unfold sbB
  rw [← addB_neg a _ ha (negB_lt' hb), negB_negB' hb, addB_comm _ _ hb (negB_lt' ha)]
theorem sbB_negneg {a b : Nat} (ha : a < 18446744073709551616) (hb : b < 18446744073709551616) : sbB (negB a) (negB b) = canonB (negB (sbB a b)) := by
  unfold sbB
  exact addB_neg a _ ha (negB_lt' hb)
/-- one product, a NaN as the one -/
def mlB (a b : Nat) : Nat := match Ieee.double.mul a b with | some r => r | none => quiet
theorem mlB_some {a b r : Nat} (h : Ieee.double.mul a b = some r) : mlB a b = r := by unfold mlB; rw [h]
theorem mlB_none {a b : Nat} (h : Ieee.double.mul a b = none) : mlB a b = quiet := by unfold mlB; rw [h]
theorem mul_fact {a b r : Nat} (h : Ieee.double.mul a b = some r) (ha : a < 18446744073709551616) (hb : b < 18446744073709551616) : r < 18446744073709551616 ∧ isN r = false := by
  rcases mul_cases a b ha hb with ⟨h1, h2⟩ | h' | ⟨s, h'⟩
  · have e := mul_d a b ha hb h1 h2
    rw [h] at e
    injection e with e
    generalize rung 52 1074 (mv (mg a) * mv (mg b)) = q at e
    have hm : min q 9218868437227405312 ≤ 9218868437227405312 := Nat.min_le_right _ _
    generalize min q 9218868437227405312 = z at e hm
    rw [isN_false]
    subst e
    cases (ng a ^^ ng b)
    · simp only [Bool.false_eq_true, if_false]; exact ⟨by omega, by unfold mg; omega⟩
    · simp only [if_true]; exact ⟨by omega, by unfold mg; omega⟩
  · rw [h] at h'; cases h'
  · rw [h] at h'
    injection h' with h'
    subst h'
    exact ⟨infW_lt s, by rw [isN_false, infW_mg]; omega⟩
theorem mlB_lt {a b : Nat} (ha : a < 18446744073709551616) (hb : b < 18446744073709551616) : mlB a b < 18446744073709551616 := by
  cases h : Ieee.double.mul a b with
  | none => rw [mlB_none h]; decide
  | some r => rw [mlB_some h]; exact (mul_fact h ha hb).1
theorem mlB_comm (a b : Nat) : mlB a b = mlB b a := by unfold mlB; rw [mul_comm]
def sqB (x : Nat) : Nat := mlB x x
theorem sqB_lt {x : Nat} (hx : x < 18446744073709551616) : sqB x < 18446744073709551616 := mlB_lt hx hx
theorem sqB_neg {x : Nat} (hx : x < 18446744073709551616) : sqB (negB x) = sqB x := by
  unfold sqB mlB; rw [mul_negneg x x hx hx]
theorem sqB_canon {x : Nat} (hx : x < 18446744073709551616) : sqB (canonB x) = sqB x := by
  unfold canonB
  cases h : isN x
  · simp only [Bool.false_eq_true, if_false]
    by_cases c : mg x = 0
    · rw [if_pos c]
      have : x = 0 ∨ x = 9223372036854775808 := by unfold mg at c; omega
      rcases this with rfl | rfl <;> decide
    · rw [if_neg c]
  · simp only [if_true]
    unfold sqB
    rw [mlB_none (mul_nan _ _ (.inl h)), mlB_none (mul_nan _ _ (.inl quiet_N))]
/-- an arithmetic of NaN: one among three makes the sum one -/
theorem plB_nan {a b : Nat} (h : isN a = true ∨ isN b = true) : plB a b = quiet := plB_none (add_nan a b h)
theorem thB_nan {a b c : Nat} (h : isN a = true ∨ isN b = true ∨ isN c = true) : thB a b c = quiet := by
  obtain ⟨u, v, z, e, hp⟩ := th_perm a b c
  rw [e]
  have hn : isN u = true ∨ isN v = true ∨ isN z = true := by
    rcases hp with ⟨rfl, rfl, rfl⟩ | ⟨rfl, rfl, rfl⟩ | ⟨rfl, rfl, rfl⟩ | ⟨rfl, rfl, rfl⟩ | ⟨rfl, rfl, rfl⟩ | ⟨rfl, rfl, rfl⟩ <;> rcases h with h | h | h <;> simp [h]
  rcases hn with k | k | k
  · rw [plB_nan (.inl k)]; exact plB_nan (.inl quiet_N)
  · rw [plB_nan (.inr k)]; exact plB_nan (.inl quiet_N)
  · exact plB_nan (.inr k)
theorem thB_q (a b c : Nat) : thB a b c = thB (qB a) (qB b) (qB c) := by
  cases h1 : isN a
  · cases h2 : isN b
    · cases h3 : isN c
      · rw [qB_of h1, qB_of h2, qB_of h3]
      · rw [thB_nan (.inr (.inr h3)), thB_nan (.inr (.inr (by rw [qB_isN]; exact h3)))]
    · rw [thB_nan (.inr (.inl h2)), thB_nan (.inr (.inl (by rw [qB_isN]; exact h2)))]
  · rw [thB_nan (.inl h1), thB_nan (.inl (by rw [qB_isN]; exact h1))]
/-- a square root and a quotient, in the one form -/
def rtB (x : Nat) : Nat := match Ieee.double.sqrt x with | some r => canonB r | none => quiet
def dvB (a b : Nat) : Nat := match Ieee.double.div a b with | some r => canonB r | none => quiet
theorem rtB_some {x r : Nat} (h : Ieee.double.sqrt x = some r) : rtB x = canonB r := by unfold rtB; rw [h]
theorem rtB_none {x : Nat} (h : Ieee.double.sqrt x = none) : rtB x = quiet := by unfold rtB; rw [h]
theorem dvB_some {a b r : Nat} (h : Ieee.double.div a b = some r) : dvB a b = canonB r := by unfold dvB; rw [h]
theorem dvB_none {a b : Nat} (h : Ieee.double.div a b = none) : dvB a b = quiet := by unfold dvB; rw [h]
theorem canon_lt {x : Nat} (hx : x < 18446744073709551616) : canonB x < 18446744073709551616 := by
  unfold canonB; split
  · decide
  · split
    · decide
    · exact hx
/-- how long -/
def lnB (x y z : Nat) : Nat := rtB (thB (sqB x) (sqB y) (sqB z))
theorem lnB_12 {x y z : Nat} (hx : x < 18446744073709551616) (hy : y < 18446744073709551616) : lnB x y z = lnB y x z := by
  unfold lnB; rw [thB_12 (sqB_lt hx) (sqB_lt hy)]
theorem lnB_23 {x y z : Nat} (hx : x < 18446744073709551616) (hy : y < 18446744073709551616) (hz : z < 18446744073709551616) : lnB x y z = lnB x z y := by
  unfold lnB; rw [thB_23 (sqB_lt hx) (sqB_lt hy) (sqB_lt hz)]
theorem lnB_cn {x y z : Nat} (hx : x < 18446744073709551616) : lnB (canonB (negB x)) y z = lnB x y z := by unfold lnB; rw [sqB_canon (negB_lt' hx), sqB_neg hx]
end Go.Proofs.YtomenbbhdnfciaaGreatDoor

namespace Go.Proofs.YtomenbbhdnfciaaGreatDoor
open Tf Ieee

theorem mv_dbl {r : Nat} (h : 4503599627370496 ≤ r) : mv (r + 4503599627370496) = 2 * mv r := by
  unfold mv mag
  have e : (2 : Nat) ^ 52 = 4503599627370496 := by decide
  rw [if_neg (by omega), if_neg (by omega), e]
  have h1 : (r + 4503599627370496) % 4503599627370496 = r % 4503599627370496 := by omega
  have h2 : (r + 4503599627370496) / 4503599627370496 - 1 = (r / 4503599627370496 - 1) + 1 := by omega
  rw [h1, h2, Nat.pow_add, Nat.pow_one, ← Nat.mul_assoc, Nat.mul_comm]
theorem rung_dbl {d V : Nat} (h0 : V ≠ 0) (h : 52 + d ≤ V.log2) : rung 52 d (V * 2) = rung 52 d V + 4503599627370496 := by
  unfold rung
  have hl : (V * 2).log2 = V.log2 + 1 := by
    have := log2_mul_pow V 1 h0
    rwa [Nat.pow_one] at this
  have e : (2 : Nat) ^ 52 = 4503599627370496 := by decide
  rw [hl, show V.log2 + 1 - (52 + d) = (V.log2 - (52 + d)) + 1 by omega, show (V.log2 - (52 + d)) + 1 + d = (V.log2 - (52 + d) + d) + 1 by omega]
  rw [Nat.pow_succ 2 (V.log2 - (52 + d) + d), rne_scale _ _ 2 (by omega), e]
  omega
theorem rung_big {d V : Nat} (h : 52 + d ≤ V.log2) (h0 : V ≠ 0) : 4503599627370496 ≤ rung 52 d V := by
  have e : mag 52 4503599627370496 = 2 ^ 52 := by decide
  refine rung_ge (by omega) ?_
  rw [e, ← Nat.pow_add]
  exact Nat.le_trans (Nat.pow_le_pow_right (by omega) h) (Nat.log2_self_le h0)
/-- the double of a word -/
def db (x : Nat) : Nat := if mg x = 0 then x else x + 4503599627370496
theorem db_mg {x : Nat} (h : mg x = 0 ∨ mg x + 4503599627370496 < 9223372036854775808) : mg (db x) = if mg x = 0 then 0 else mg x + 4503599627370496 := by
  unfold db
  by_cases c : mg x = 0
  · rw [if_pos c, if_pos c, c]
  · rw [if_neg c, if_neg c]
    have h := h.resolve_left c
    unfold mg at *
    omega
theorem db_ng {x : Nat} (h : mg x = 0 ∨ mg x + 4503599627370496 < 9223372036854775808) (hx : x < 18446744073709551616) : ng (db x) = ng x := by
  unfold db
  by_cases c : mg x = 0
  · rw [if_pos c]
  · rw [if_neg c]
    have h := h.resolve_left c
    unfold mg at *
    unfold ng
    by_cases k : 9223372036854775808 ≤ x
    · rw [decide_eq_true k, decide_eq_true (by omega)]
    · rw [decide_eq_false k, decide_eq_false (by omega)]
theorem db_lt {x : Nat} (h : mg x = 0 ∨ mg x + 4503599627370496 < 9223372036854775808) (hx : x < 18446744073709551616) : db x < 18446744073709551616 := by
  unfold db
  by_cases c : mg x = 0
  · rw [if_pos c]; exact hx
  · rw [if_neg c]
    have h := h.resolve_left c
    unfold mg at *
    omega
/-- nought, or a number far from both ends -/
def Md (x : Nat) : Prop := mg x = 0 ∨ (4503599627370496 ≤ mg x ∧ mg x + 4503599627370496 < 9218868437227405312)
theorem Md.w {x : Nat} (h : Md x) : mg x = 0 ∨ mg x + 4503599627370496 < 9223372036854775808 := by rcases h with h | h; exact .inl h; exact .inr (by omega)
theorem Md.fin {x : Nat} (h : Md x) : mg x < 9218868437227405312 := by rcases h with h | h <;> omega
theorem Md.dfin {x : Nat} (h : Md x) : mg (db x) < 9218868437227405312 := by
  rw [db_mg h.w]
  rcases h with h | h
  · rw [if_pos h]; omega
  · rw [if_neg (by omega)]; omega
theorem db_sv {x : Nat} (h : Md x) (hx : x < 18446744073709551616) : sv (db x) = 2 * sv x := by
  unfold sv
  rw [db_ng h.w hx, db_mg h.w]
  rcases h with h | h
  · rw [if_pos h, h, mv_zero]; cases ng x <;> rfl
  · rw [if_neg (show ¬ mg x = 0 by omega), mv_dbl h.1]
    cases ng x <;> simp <;> omega
theorem Md.neg {x : Nat} (h : Md x) (hx : x < 18446744073709551616) : Md (negB x) := by unfold Md; rw [negB_mg hx]; exact h
/-- a rounded number doubled -/
theorem rn_dbl (z : Bool) {v : Int} (h : v = 0 ∨ (4503599627370496 ≤ v.natAbs ∧ rung 52 0 v.natAbs + 4503599627370496 ≤ 9218868437227405312)) : rn z (2 * v) = db (rn z v) := by
  rcases h with rfl | ⟨h1, h2⟩
  · rw [Int.mul_zero, rn_zero]; cases z <;> decide
  · have hv : v ≠ 0 := by intro h; rw [h] at h1; simp at h1
    have h0 : v.natAbs ≠ 0 := by omega
    have hlog : 52 + 0 ≤ v.natAbs.log2 := by
      have e : (2 : Nat) ^ 52 = 4503599627370496 := by decide
      rcases Nat.lt_or_ge v.natAbs.log2 52 with k | k
      · have := Nat.lt_log2_self (n := v.natAbs)
        have h3 : 2 ^ (v.natAbs.log2 + 1) ≤ 2 ^ 52 := Nat.pow_le_pow_right (by omega) (by omega)
        omega
      · omega
    have hr := rung_dbl h0 hlog
    have hb := rung_big hlog h0
    have e2 : (2 * v).natAbs = v.natAbs * 2 := by omega
    have hm : mg (rn z v) = rung 52 0 v.natAbs := by rw [rn_mg]; omega
    unfold db
    rw [hm, if_neg (by omega)]
    unfold rn
    rw [if_neg hv, if_neg (show ¬ 2 * v = 0 by omega), e2, hr]
    generalize rung 52 0 v.natAbs = r at *
    rw [Nat.min_eq_left (by omega), Nat.min_eq_left (by omega)]
    by_cases c : v < 0
    · rw [decide_eq_true c, decide_eq_true (show 2 * v < 0 by omega)]; simp; omega
    · rw [decide_eq_false c, decide_eq_false (show ¬ 2 * v < 0 by omega)]; simp
end Go.Proofs.YtomenbbhdnfciaaGreatDoor

namespace Go.Proofs.YtomenbbhdnfciaaGreatDoor
open Tf Ieee
theorem mul_w {x y : Nat} (hx : x < 18446744073709551616) (hy : y < 18446744073709551616) (fx : mg x < 9218868437227405312) (fy : mg y < 9218868437227405312) :
    mlB x y = if (ng x ^^ ng y) then 9223372036854775808 + min (rung 52 1074 (mv (mg x) * mv (mg y))) 9218868437227405312 else min (rung 52 1074 (mv (mg x) * mv (mg y))) 9218868437227405312 :=
  mlB_some (mul_d x y hx hy fx fy)
theorem rung_none (d : Nat) : rung 52 d 0 = 0 := by
  have := rung_mag 52 d 0 (by omega)
  rwa [mag_zero, Nat.zero_mul] at this
/-- a word by its sign and its rung -/
def wd (s : Bool) (r : Nat) : Nat := if s then 9223372036854775808 + r else r
theorem wd_mg {s : Bool} {r : Nat} (h : r < 9223372036854775808) : mg (wd s r) = r := by unfold wd mg; cases s <;> simp <;> omega
theorem wd_db {s : Bool} {r : Nat} (h : r < 9223372036854775808) (h0 : r ≠ 0) : db (wd s r) = wd s (r + 4503599627370496) := by
  unfold db
  rw [wd_mg h, if_neg h0]
  unfold wd
  cases s <;> simp <;> omega
theorem wd_dz (s : Bool) : db (wd s 0) = wd s 0 := by cases s <;> decide
/-- the product of two such numbers stays far from both ends -/
def Far (x y : Nat) : Prop := (mg x = 0 ∨ mg y = 0) ∨ (52 + 1074 ≤ (mv (mg x) * mv (mg y)).log2 ∧ rung 52 1074 (mv (mg x) * mv (mg y)) + 4503599627370496 < 9218868437227405312)
theorem mlB_db {x y : Nat} (hx : x < 18446744073709551616) (hy : y < 18446744073709551616) (mx : Md x) (my : Md y) (h : Far x y) : mlB (db x) y = db (mlB x y) := by
  rw [mul_w (db_lt mx.w hx) hy mx.dfin my.fin, mul_w hx hy mx.fin my.fin, db_ng mx.w hx, db_mg mx.w]
  show wd (ng x ^^ ng y) _ = db (wd (ng x ^^ ng y) _)
  generalize (ng x ^^ ng y) = s
  rcases h with h | ⟨h1, h2⟩
  · have e1 : mv (if mg x = 0 then 0 else mg x + 4503599627370496) * mv (mg y) = 0 := by
      rcases h with h | h
      · rw [if_pos h, mv_zero, Nat.zero_mul]
      · rw [h, mv_zero, Nat.mul_zero]
    have e2 : mv (mg x) * mv (mg y) = 0 := by
      rcases h with h | h
      · rw [h, mv_zero, Nat.zero_mul]
      · rw [h, mv_zero, Nat.mul_zero]
    rw [e1, e2, rung_none, Nat.zero_min, wd_dz]
  · have h0 : mv (mg x) * mv (mg y) ≠ 0 := by
      intro e
      rw [e] at h1
      simp at h1
    have hx0 : mg x ≠ 0 := by intro e; rw [e, mv_zero, Nat.zero_mul] at h0; exact h0 rfl
    have hb := rung_big h1 h0
    rw [if_neg hx0, mv_dbl (mx.resolve_left hx0).1, show 2 * mv (mg x) * mv (mg y) = mv (mg x) * mv (mg y) * 2 by rw [Nat.mul_comm 2, Nat.mul_right_comm], rung_dbl h0 h1]
    generalize rung 52 1074 (mv (mg x) * mv (mg y)) = r at *
    rw [Nat.min_eq_left (by omega), Nat.min_eq_left (by omega), wd_db (by omega) (by omega)]
theorem mlB_dbr {x y : Nat} (hx : x < 18446744073709551616) (hy : y < 18446744073709551616) (mx : Md x) (my : Md y) (h : Far x y) : mlB x (db y) = db (mlB x y) := by
  rw [mlB_comm x (db y), mlB_comm x y]
  refine mlB_db hy hx my mx ?_
  rcases h with h | h
  · exact .inl h.symm
  · rw [Nat.mul_comm] at h; exact .inr h
end Go.Proofs.YtomenbbhdnfciaaGreatDoor

namespace Go.Proofs.YtomenbbhdnfciaaGreatDoor
open Tf Ieee
def sgn (x : Nat) : Bool := x / 9223372036854775808 % 2 == 1
theorem read_norm {x : Nat} (h1 : 4503599627370496 ≤ mg x) (h2 : mg x < 9218868437227405312) :
    double.read x = .number (sgn x) (4503599627370496 + mg x % 4503599627370496) (double.leastPlace + ((mg x / 4503599627370496 - 1 : Nat) : Int)) := by
  unfold Format.read
  simp only [d_sw, d_bin, d_inf]
  have hmg : x % 9223372036854775808 = mg x := rfl
  rw [hmg, if_neg (by omega), if_pos h2]
  rfl
theorem read_zero {x : Nat} (h : mg x = 0) : double.read x = .number (sgn x) 0 double.leastPlace := by
  unfold Format.read
  simp only [d_sw, d_bin, d_inf]
  have hmg : x % 9223372036854775808 = mg x := rfl
  rw [hmg, if_pos (by omega), h]
  rfl
theorem sgn_ng {x : Nat} (hx : x < 18446744073709551616) : sgn x = ng x := by
  unfold sgn ng
  by_cases c : 9223372036854775808 ≤ x
  · rw [show x / 9223372036854775808 = 1 by omega, decide_eq_true c]; rfl
  · rw [show x / 9223372036854775808 = 0 by omega, decide_eq_false c]; rfl
/-- the whole root -/
theorem root_bound (n : Nat) : ∀ t r, r * r ≤ n → n < (r + 2 ^ t) * (r + 2 ^ t) → Datum.rootFrom n t r * Datum.rootFrom n t r ≤ n ∧ n < (Datum.rootFrom n t r + 1) * (Datum.rootFrom n t r + 1) := by
  intro t
  induction t with
  | zero => intro r h1 h2; exact ⟨h1, h2⟩
  | succ t ih =>
    intro r h1 h2
    unfold Datum.rootFrom
    have e : 1 <<< t = 2 ^ t := by rw [Nat.shiftLeft_eq, Nat.one_mul]
    simp only [e]
    by_cases c : (r + 2 ^ t) * (r + 2 ^ t) ≤ n
    · rw [if_pos c]
      refine ih _ c ?_
      rw [show r + 2 ^ t + 2 ^ t = r + 2 ^ (t + 1) by rw [Nat.pow_succ]; omega]
      exact h2
    · rw [if_neg c]
      exact ih _ h1 (by omega)
def isq (n : Nat) : Nat := Datum.rootFrom n (n.log2 / 2 + 1) 0
theorem isq_spec (n : Nat) : isq n * isq n ≤ n ∧ n < (isq n + 1) * (isq n + 1) := by
  refine root_bound n _ 0 (by omega) ?_
  rw [Nat.zero_add, ← Nat.pow_add]
  by_cases h : n = 0
  · rw [h]; exact Nat.two_pow_pos _
  · exact Nat.lt_of_lt_of_le Nat.lt_log2_self (Nat.pow_le_pow_right (by omega) (by omega))
def rtM (m : Nat) (i : Int) : Nat := (108 - m.log2) + ((i - ((108 - m.log2 : Nat) : Int)) % 2).toNat
def rtW (m s : Nat) : Nat := 2 * isq (m <<< s) + (isq (m <<< s) * isq (m <<< s) != m <<< s).toNat
theorem root_eq {m : Nat} (i : Int) (h : m ≠ 0) : Datum.root 54 (.number false m i) = some (.number false (rtW m (rtM m i)) ((i - (rtM m i : Nat)) / 2 - 1)) := by
  unfold Datum.root
  dsimp only
  rw [if_neg h]
  rfl
theorem sqrt_eq {T : Nat} (hT : T < 18446744073709551616) (hn : ng T = false) (h1 : 4503599627370496 ≤ mg T) (h2 : mg T < 9218868437227405312) :
    double.sqrt T = some (double.nearest false (rtW (4503599627370496 + mg T % 4503599627370496) (rtM (4503599627370496 + mg T % 4503599627370496) (double.leastPlace + ((mg T / 4503599627370496 - 1 : Nat) : Int))))
      ((double.leastPlace + ((mg T / 4503599627370496 - 1 : Nat) : Int) - (rtM (4503599627370496 + mg T % 4503599627370496) (double.leastPlace + ((mg T / 4503599627370496 - 1 : Nat) : Int)) : Nat)) / 2 - 1)) := by
  show ((double.read T).root 54).map double.write = _
  rw [read_norm h1 h2, sgn_ng hT, hn, root_eq _ (by omega)]
  rfl
theorem log_m (q : Nat) (h : q < 4503599627370496) : (4503599627370496 + q).log2 = 52 := by
  refine log2_of (k := 52) ?_ ?_
  · have e : (2 : Nat) ^ 52 = 4503599627370496 := by decide
    omega
  · have e : (2 : Nat) ^ (52 + 1) = 9007199254740992 := by decide
    omega
theorem rtM_val {m : Nat} (i : Int) (h : m.log2 = 52) : 56 ≤ rtM m i ∧ rtM m i ≤ 57 ∧ rtM m (i + 2) = rtM m i ∧ (i - (rtM m i : Nat)) % 2 = 0 := by
  unfold rtM
  rw [h]
  omega
theorem rtW_val {m s : Nat} (h1 : 4503599627370496 ≤ m) (h2 : m < 9007199254740992) (hs : 56 ≤ s ∧ s ≤ 57) : 18014398509481984 ≤ rtW m s ∧ rtW m s < 144115188075855872 := by
  obtain ⟨a, b⟩ := isq_spec (m <<< s)
  have e : m <<< s = m * 2 ^ s := Nat.shiftLeft_eq ..
  have hc : (isq (m <<< s) * isq (m <<< s) != m <<< s).toNat ≤ 1 := by cases (isq (m <<< s) * isq (m <<< s) != m <<< s) <;> decide
  unfold rtW
  generalize (isq (m <<< s) * isq (m <<< s) != m <<< s).toNat = c at *
  generalize isq (m <<< s) = q at *
  rw [e] at a b
  have lo : 4503599627370496 * 2 ^ 56 ≤ m * 2 ^ s := Nat.mul_le_mul h1 (Nat.pow_le_pow_right (by omega) hs.1)
  have hi : m * 2 ^ s ≤ 9007199254740992 * 2 ^ 57 := Nat.mul_le_mul (by omega) (Nat.pow_le_pow_right (by omega) hs.2)
  generalize m * 2 ^ s = n at *
  have k1 : 9007199254740992 ≤ q := by
    rcases Nat.lt_or_ge q 9007199254740992 with k | k
    · have : (q + 1) * (q + 1) ≤ 9007199254740992 * 9007199254740992 := Nat.mul_le_mul (by omega) (by omega)
      omega
    · exact k
  have k2 : q < 72057594037927935 := by
    rcases Nat.lt_or_ge q 72057594037927935 with k | k
    · exact k
    · have : 72057594037927935 * 72057594037927935 ≤ q * q := Nat.mul_le_mul k k
      omega
  omega
def Er16 : Nat := 1548
theorem mv_E16 : mv 6976075822796898304 = 2 ^ (52 + Er16) := mv_two_pow Er16 _ (by decide)
theorem le_E16 {W d : Nat} (hW : W ≤ 2 ^ 57) (hd : d ≤ 1531) : W * 2 ^ d ≤ mv 6976075822796898304 := by
  have hE : 57 + d ≤ 52 + Er16 := by
    have : Er16 = 1548 := rfl
    omega
  rw [mv_E16]
  refine Nat.le_trans (Nat.mul_le_mul_right _ hW) ?_
  rw [← Nat.pow_add]
  exact Nat.pow_le_pow_right (by omega) hE
theorem rung_E16 {V : Nat} (h : V ≤ mv 6976075822796898304) : rung 52 0 V ≤ 6976075822796898304 := by
  refine rung_le (by omega) ?_
  rw [Nat.pow_zero, Nat.mul_one]
  exact h
/-- the root of a number four times as great -/
theorem sqrt_quad {T : Nat} (hT : T < 18446744073709551616) (hn : ng T = false) (h1 : 4503599627370496 ≤ mg T) (h2 : mg T + 9007199254740992 < 9218868437227405312) :
    ∃ r, 4503599627370496 ≤ r ∧ r ≤ 6976075822796898304 ∧ double.sqrt T = some r ∧ double.sqrt (T + 9007199254740992) = some (r + 4503599627370496) := by
  have hTm : T = mg T := by rw [mg_of_lt (lt_of_ng hn)]
  have hT2 : mg (T + 9007199254740992) = mg T + 9007199254740992 := by unfold mg; unfold mg at h2; have := lt_of_ng hn; omega
  have hn2 : ng (T + 9007199254740992) = false := ng_of_lt (by omega)
  have e1 := sqrt_eq hT hn h1 (by omega)
  have e2 := sqrt_eq (T := T + 9007199254740992) (by omega) hn2 (by omega) (by omega)
  rw [hT2, show (mg T + 9007199254740992) % 4503599627370496 = mg T % 4503599627370496 by omega, show (mg T + 9007199254740992) / 4503599627370496 - 1 = (mg T / 4503599627370496 - 1) + 2 by omega] at e2
  have hq : mg T % 4503599627370496 < 4503599627370496 := Nat.mod_lt _ (by omega)
  generalize hm : 4503599627370496 + mg T % 4503599627370496 = m at e1 e2
  have hl : m.log2 = 52 := by rw [← hm]; exact log_m _ hq
  have hk : mg T / 4503599627370496 - 1 ≤ 2045 := by omega
  generalize mg T / 4503599627370496 - 1 = k at e1 e2 hk
  rw [show double.leastPlace + ((k + 2 : Nat) : Int) = double.leastPlace + (k : Int) + 2 by omega] at e2
  have hlp := d_lp
  generalize hi : double.leastPlace + (k : Int) = i at e1 e2
  obtain ⟨m1, m2, m3, m4⟩ := rtM_val i hl
  rw [m3] at e2
  generalize rtM m i = s at *
  obtain ⟨w1, w2⟩ := rtW_val (m := m) (s := s) (by omega) (by omega) ⟨m1, m2⟩
  generalize rtW m s = W at *
  obtain ⟨d, hd⟩ : ∃ d : Nat, (i - (s : Int)) / 2 - 1 = double.leastPlace + (d : Int) := ⟨((i - (s : Int)) / 2 - 1 - double.leastPlace).toNat, by omega⟩
  have hd2 : (i + 2 - (s : Int)) / 2 - 1 = double.leastPlace + ((d + 1 : Nat) : Int) := by omega
  have hdle : d ≤ 1531 := by omega
  rw [nearest_up double false W d _ hd, d_word, d_inf] at e1
  rw [nearest_up double false W (d + 1) _ hd2, d_word, d_inf, Nat.pow_succ, ← Nat.mul_assoc] at e2
  have h0 : W * 2 ^ d ≠ 0 := Nat.mul_ne_zero (by omega) (by have := Nat.two_pow_pos d; omega)
  have hlog : 52 + 0 ≤ (W * 2 ^ d).log2 := by
    refine (Nat.le_log2 h0).2 ?_
    have e : (2 : Nat) ^ (52 + 0) = 4503599627370496 := by decide
    rw [e]
    have := Nat.two_pow_pos d
    exact Nat.le_trans (by omega) (Nat.le_mul_of_pos_right W this)
  have hb := rung_big hlog h0
  have hr := rung_dbl h0 hlog
  have hW57 : W ≤ 2 ^ 57 := by
    have e : (2 : Nat) ^ 57 = 144115188075855872 := by decide
    omega
  have hle := rung_E16 (le_E16 hW57 hdle)
  have hfb : double.fractionBits = 52 := rfl
  rw [hfb] at e1 e2
  rw [hr] at e2
  generalize rung 52 0 (W * 2 ^ d) = r at *
  simp only [Bool.false_eq_true, if_false] at e1 e2
  rw [Nat.min_eq_left (by omega)] at e1 e2
  exact ⟨r, hb, hle, e1, e2⟩
/-- the root of what is doubled twice -/
theorem rtB_db {T : Nat} (hT : T < 18446744073709551616) (hn : ng T = false) (h : mg T = 0 ∨ (4503599627370496 ≤ mg T ∧ mg T + 9007199254740992 < 9218868437227405312)) :
    rtB (db (db T)) = db (rtB T) ∧ Md (rtB T) := by
  have hTm : T = mg T := by rw [mg_of_lt (lt_of_ng hn)]
  rcases h with h | ⟨h1, h2⟩
  · have : T = 0 := by omega
    subst this
    have e : rtB 0 = 0 := by decide +kernel
    rw [show db (db 0) = 0 by decide, e]
    exact ⟨by decide, .inl (by decide)⟩
  · obtain ⟨r, r1, r2, e1, e2⟩ := sqrt_quad hT hn h1 h2
    have ed : db (db T) = T + 9007199254740992 := by
      have : db T = T + 4503599627370496 := by unfold db; rw [if_neg (by omega)]
      have h3 : mg (T + 4503599627370496) ≠ 0 := by unfold mg; have := lt_of_ng hn; omega
      have h4 : db (T + 4503599627370496) = T + 4503599627370496 + 4503599627370496 := by unfold db; rw [if_neg h3]
      have h5 : T + 4503599627370496 + 4503599627370496 = T + 9007199254740992 := by omega
      exact (congrArg db this).trans (h4.trans h5)
    have hm : mg r = r := mg_of_lt (by omega)
    have hm2 : mg (r + 4503599627370496) = r + 4503599627370496 := mg_of_lt (by omega)
    have c1 : canonB r = r := by unfold canonB; rw [if_neg (by rw [isN_true]; omega), if_neg (by omega)]
    have c2 : canonB (r + 4503599627370496) = r + 4503599627370496 := by unfold canonB; rw [if_neg (by rw [isN_true]; omega), if_neg (by omega)]
    rw [ed, rtB_some e1, rtB_some e2, c1, c2]
    refine ⟨?_, .inr ⟨by omega, by omega⟩⟩
    unfold db
    rw [if_neg (by omega)]
end Go.Proofs.YtomenbbhdnfciaaGreatDoor

namespace Go.Proofs.YtomenbbhdnfciaaGreatDoor
open Tf Ieee
/-- the whole root twice, and one more where that isn't all -/
def stW (n : Nat) : Nat := 2 * isq n + (isq n * isq n != n).toNat
theorem mv_parts {r : Nat} (h : 4503599627370496 ≤ r) : mv r = (4503599627370496 + r % 4503599627370496) * 2 ^ (r / 4503599627370496 - 1) := by
  unfold mv mag
  have e : (2 : Nat) ^ 52 = 4503599627370496 := by decide
  rw [if_neg (by omega), e]
end Go.Proofs.YtomenbbhdnfciaaGreatDoor

namespace Go.Proofs.YtomenbbhdnfciaaGreatDoor
open Go.RowKit Tf

theorem run_bits (b : Nat) (w : World) : (callFunc 112 #[.float .f64 b]).run Tryz.prog w = .ok (.value (.int .u64 b)) w := by
  rw [run_callFunc_extern (e := Extern.MathFloatBits.float64bits) Tryz.func112 (by kernel_rfl) (by kernel_rfl) (by kernel_rfl) (by kernel_rfl)]
  rfl
theorem run_from (n : Int) (w : World) : (callFunc 113 #[.int .u64 n]).run Tryz.prog w = .ok (.value (.float .f64 n.toNat)) w := by
  rw [run_callFunc_extern (e := Extern.MathFloatBits.float64frombits) Tryz.func113 (by kernel_rfl) (by kernel_rfl) (by kernel_rfl) (by kernel_rfl)]
  rfl
theorem raw_feq (a b : Nat) : (FloatKind.f64.format.order a b == some Ordering.eq) = feq a b := rfl
theorem raw_fne (a b : Nat) : (FloatKind.f64.format.order a b != some Ordering.eq) = !feq a b := rfl
theorem raw_flt (a b : Nat) : (FloatKind.f64.format.order a b == some Ordering.lt) = flt a b := rfl
theorem raw_fgt (a b : Nat) : (FloatKind.f64.format.order a b == some Ordering.gt) = fgt a b := rfl
attribute [local go_sem] run_bits run_from raw_feq raw_fne raw_flt raw_fgt

theorem ret_int {k : IntKind} {a b : Int} (h : a = b) : Ending.returned (.int k a) = .returned (.int k b) := by rw [h]
theorem ret_bool {a b : Bool} (h : a = b) : Ending.returned (.bool a) = .returned (.bool b) := by rw [h]
theorem ret_flt {a b : Nat} (h : a = b) : Ending.returned (.float .f64 a) = .returned (.float .f64 b) := by rw [h]

set_option maxHeartbeats 400000 in
theorem magnitudeBits_any (x : Nat) (w : World) (hx : x < 18446744073709551616) :
    Calls Tryz.prog 111 #[.float .f64 x] w fun e w' => e = .returned (.int .u64 (mg x : Nat)) ∧ w' = w := by
  go_enter Tryz.func111, Tryz.ntmps111
  go_wp2
  go_ret
  exact ⟨ret_int (andNot_sign x hx), rfl⟩
set_option maxHeartbeats 400000 in
theorem place_any (x : Nat) (w : World) (hx : x < 18446744073709551616) :
    Calls Tryz.prog 114 #[.float .f64 x] w fun e w' => e = .returned (.int .u64 (placeB x : Nat)) ∧ w' = w := by
  have hs := and_sign x hx
  cases hn : ng x
  · rw [hn] at hs
    have hl := lt_of_ng hn
    have ho : Hid (bits .or .u64 (x : Int) 9223372036854775808 = ((x + 9223372036854775808 : Nat) : Int)) := or_sign x hl
    have hp : Hid (placeB x = x + 9223372036854775808) := by unfold placeB; rw [hn]; rfl
    go_enter Tryz.func114, Tryz.ntmps114
    go_wp2
    go_ret
    exact ⟨ret_int (by rw [ho.out, hp.out]), rfl⟩
  · rw [hn] at hs
    have ho : Hid (bits .xor .u64 IntKind.u64.max (x : Int) = ((18446744073709551615 - x : Nat) : Int)) := not_all x hx
    have hp : Hid (placeB x = 18446744073709551615 - x) := by unfold placeB; rw [hn]; rfl
    go_enter Tryz.func114, Tryz.ntmps114
    go_wp2
    go_ret
    exact ⟨ret_int (by rw [hp.out]; exact ho.out), rfl⟩
set_option maxHeartbeats 400000 in
theorem isNaN_any (x : Nat) (w : World) (hx : x < 18446744073709551616) :
    Calls Tryz.prog 77 #[.float .f64 x] w fun e w' => e = .returned (.bool (isN x)) ∧ w' = w := by
  go_enter Tryz.func77, Tryz.ntmps77
  go_wp2_with (go_at_call 111; refine (magnitudeBits_any _ _ hx).mono ?_; rintro e w' ⟨rfl, rfl⟩)
  go_ret
  exact ⟨ret_bool (by unfold isN; exact decide_eq_decide.2 (by omega)), rfl⟩
set_option maxHeartbeats 400000 in
theorem quietNaN_any (w : World) :
    Calls Tryz.prog 78 #[] w fun e w' => e = .returned (.float .f64 quiet) ∧ w' = w := by
  go_enter Tryz.func78, Tryz.ntmps78
  go_wp2
  go_ret
  exact ⟨rfl, rfl⟩

theorem feq_zero (x : Nat) (hx : x < 18446744073709551616) : feq x 0 = decide (mg x = 0) := by
  have h := feq_rk x 0 hx (by omega)
  have e : rk 0 = 0 := by decide
  have n : isN 0 = false := by decide
  rw [h, e, n]
  cases hN : isN x
  · unfold rk
    cases ng x <;> simp
  · have := isN_true.1 hN
    have : ¬ mg x = 0 := by omega
    simp [this]

theorem magnitudeBits_at (x m : Nat) (w : World) (hx : x < 18446744073709551616) (hm : Hid (mg x = m)) :
    Calls Tryz.prog 111 #[.float .f64 x] w fun e w' => e = .returned (.int .u64 (m : Nat)) ∧ w' = w := by
  have := magnitudeBits_any x w hx
  rwa [hm.out] at this
set_option maxHeartbeats 1000000 in
set_option maxRecDepth 100000 in
theorem class_at (x m : Nat) (c : Int) (w : World) (hx : x < 18446744073709551616) (hm : Hid (mg x = m)) (hc : Hid ((if m = 0 then 0 else if m < 4503599627370496 then 1 else if m < 9218868437227405312 then 2 else if m = 9218868437227405312 then 3 else 4) = c)) :
    Calls Tryz.prog 70 #[.float .f64 x] w fun e w' => e = .returned (.int .i64 c) ∧ w' = w := by
  by_cases c0 : m = 0
  · subst c0
    go_enter Tryz.func70, Tryz.ntmps70
    go_wp2_with (go_at_call 111; refine (magnitudeBits_at x _ _ hx hm).mono ?_; rintro e w' ⟨rfl, rfl⟩)
    go_ret
    exact ⟨ret_int hc.out, rfl⟩
  · have e0 : ((m : Int) == 0) = false := by simp; omega
    by_cases c1 : m < 4503599627370496
    · have h := hc.out
      rw [if_neg c0, if_pos c1] at h
      subst h
      have e1 : decide ((m : Int) < 4503599627370496) = true := by simp; omega
      clear hc c0 c1
      go_enter Tryz.func70, Tryz.ntmps70
      go_wp2_with (go_at_call 111; refine (magnitudeBits_at x _ _ hx hm).mono ?_; rintro e w' ⟨rfl, rfl⟩)
      go_ret
      exact ⟨rfl, rfl⟩
    · by_cases c2 : m < 9218868437227405312
      · have h := hc.out
        rw [if_neg c0, if_neg c1, if_pos c2] at h
        subst h
        have e1 : decide ((m : Int) < 4503599627370496) = false := by simp; omega
        have e2 : decide ((m : Int) < 9218868437227405312) = true := by simp; omega
        clear hc c0 c1 c2
        go_enter Tryz.func70, Tryz.ntmps70
        go_wp2_with (go_at_call 111; refine (magnitudeBits_at x _ _ hx hm).mono ?_; rintro e w' ⟨rfl, rfl⟩)
        go_ret
        exact ⟨rfl, rfl⟩
      · by_cases c3 : m = 9218868437227405312
        · have h := hc.out
          rw [if_neg c0, if_neg c1, if_neg c2, if_pos c3] at h
          subst h
          clear hc
          subst c3
          go_enter Tryz.func70, Tryz.ntmps70
          go_wp2_with (go_at_call 111; refine (magnitudeBits_at x _ _ hx hm).mono ?_; rintro e w' ⟨rfl, rfl⟩)
          go_ret
          exact ⟨rfl, rfl⟩
        · have e3 : ((m : Int) == 9218868437227405312) = false := by simp; omega
          have h := hc.out
          rw [if_neg c0, if_neg c1, if_neg c2, if_neg c3] at h
          subst h
          have e1 : decide ((m : Int) < 4503599627370496) = false := by simp; omega
          have e2 : decide ((m : Int) < 9218868437227405312) = false := by simp; omega
          clear hc c0 c1 c2 c3
          go_enter Tryz.func70, Tryz.ntmps70
          go_wp2_with (go_at_call 111; refine (magnitudeBits_at x _ _ hx hm).mono ?_; rintro e w' ⟨rfl, rfl⟩)
          go_ret
          exact ⟨rfl, rfl⟩
theorem class_any (x : Nat) (w : World) (hx : x < 18446744073709551616) :
    Calls Tryz.prog 70 #[.float .f64 x] w fun e w' => e = .returned (.int .i64 (classB x)) ∧ w' = w :=
  class_at x (mg x) (classB x) w hx rfl rfl
set_option maxHeartbeats 1000000 in
set_option maxRecDepth 100000 in
theorem canon_any (x : Nat) (w : World) (hx : x < 18446744073709551616) :
    Calls Tryz.prog 118 #[.float .f64 x] w fun e w' => e = .returned (.float .f64 (canonB x)) ∧ w' = w := by
  have hc : Hid (canonB x = if isN x then quiet else if mg x = 0 then 0 else x) := rfl
  have hz := feq_zero x hx
  cases hN : isN x
  · have HN := hid hN
    by_cases c : mg x = 0
    · have H : Hid (mg x = 0) := c
      rw [c] at hz; simp only [decide_true] at hz
      clear c
      go_enter Tryz.func118, Tryz.ntmps118
      go_wp2_with (first | (go_at_call 77; refine (isNaN_any _ _ hx).mono ?_; rintro e w' ⟨rfl, rfl⟩) | (go_at_call 78; refine (quietNaN_any _).mono ?_; rintro e w' ⟨rfl, rfl⟩))
      go_ret
      exact ⟨ret_flt (by rw [hc.out, HN.out, H.out]; rfl), rfl⟩
    · simp only [c, decide_false] at hz
      go_enter Tryz.func118, Tryz.ntmps118
      go_wp2_with (first | (go_at_call 77; refine (isNaN_any _ _ hx).mono ?_; rintro e w' ⟨rfl, rfl⟩) | (go_at_call 78; refine (quietNaN_any _).mono ?_; rintro e w' ⟨rfl, rfl⟩))
      go_ret
      exact ⟨ret_flt (by rw [hc.out, HN.out, if_neg c]; rfl), rfl⟩
  · have HN := hid hN
    go_enter Tryz.func118, Tryz.ntmps118
    go_wp2_with (first | (go_at_call 77; refine (isNaN_any _ _ hx).mono ?_; rintro e w' ⟨rfl, rfl⟩) | (go_at_call 78; refine (quietNaN_any _).mono ?_; rintro e w' ⟨rfl, rfl⟩))
    go_ret
    exact ⟨ret_flt (by rw [hc.out, HN.out]; rfl), rfl⟩

end Go.Proofs.YtomenbbhdnfciaaGreatDoor

namespace Go.Proofs.YtomenbbhdnfciaaGreatDoor
open Go.RowKit Tf
attribute [local go_sem] run_bits run_from raw_feq raw_fne raw_flt raw_fgt

theorem xor_lt (x : Nat) (h : x < 2 ^ 63) : x ^^^ 2 ^ 63 = x + 2 ^ 63 := by
  apply Nat.eq_of_testBit_eq
  intro i
  rw [Nat.testBit_xor, Nat.testBit_two_pow, Nat.add_comm x]
  by_cases c : i = 63
  · subst c
    rw [Nat.testBit_two_pow_add_eq]
    have : x.testBit 63 = false := Nat.testBit_lt_two_pow h
    simp [this]
  · by_cases c2 : i < 63
    · rw [Nat.testBit_two_pow_add_gt c2]
      have : ¬ 63 = i := by omega
      simp [this]
    · have h1 : x.testBit i = false := Nat.testBit_lt_two_pow (Nat.lt_of_lt_of_le h (Nat.pow_le_pow_right (by omega) (by omega)))
      have h2 : (2 ^ 63 + x).testBit i = false := Nat.testBit_lt_two_pow (Nat.lt_of_lt_of_le (show 2 ^ 63 + x < 2 ^ 64 by omega) (Nat.pow_le_pow_right (by omega) (by omega)))
      have : ¬ 63 = i := by omega
      rw [h1, h2]; simp [this]
theorem negFloat_eq (x : Nat) (hx : x < 18446744073709551616) : Op.negFloat .f64 x = negB x := by
  unfold Op.negFloat negB
  rw [show FloatKind.f64.format.exponentBits + FloatKind.f64.format.fractionBits = 63 from rfl]
  cases h : ng x
  · have := lt_of_ng h
    rw [xor_lt x (by omega)]; simp only [Bool.false_eq_true, if_false]
  · have := ge_of_ng h
    have e := xor_lt (x - 9223372036854775808) (by omega)
    rw [show x - 9223372036854775808 + 2 ^ 63 = x by omega] at e
    have e2 : x ^^^ 2 ^ 63 = x - 9223372036854775808 := by
      rw (occs := .pos [1]) [← e]
      rw [Nat.xor_assoc, Nat.xor_self, Nat.xor_zero]
    rw [e2]; simp only [if_true]
theorem run_neg (b : Nat) : Op.unary .neg (.float .f64 b) = pure (.float .f64 (Op.negFloat .f64 b)) := rfl
attribute [local go_sem] run_neg

end Go.Proofs.YtomenbbhdnfciaaGreatDoor

namespace Go.Proofs.YtomenbbhdnfciaaGreatDoor
open Go.RowKit Tf
attribute [local go_sem] run_bits run_from raw_feq raw_fne raw_flt raw_fgt run_neg

set_option maxHeartbeats 400000 in
theorem from_any (a : Int) (w : World) :
    Calls Tryz.prog 130 #[.int .u64 a] w fun e w' => e = .returned (.float .f64 a.toNat) ∧ w' = w := by
  go_enter Tryz.func130, Tryz.ntmps130
  go_wp2
  go_ret
  exact ⟨rfl, rfl⟩
set_option maxHeartbeats 400000 in
theorem order_at (a b p q : Nat) (w : World) (ha : a < 18446744073709551616) (hb : b < 18446744073709551616) (hp : Hid (placeB a = p)) (hq : Hid (placeB b = q)) :
    Calls Tryz.prog 79 #[.float .f64 a, .float .f64 b] w fun e w' => e = .returned (.int .i64 (if p < q then -1 else if q < p then 1 else 0)) ∧ w' = w := by
  have pa : ∀ w, Calls Tryz.prog 114 #[.float .f64 a] w fun e w' => e = .returned (.int .u64 (p : Nat)) ∧ w' = w := by
    intro w; rw [← hp.out]; exact place_any a w ha
  have pb : ∀ w, Calls Tryz.prog 114 #[.float .f64 b] w fun e w' => e = .returned (.int .u64 (q : Nat)) ∧ w' = w := by
    intro w; rw [← hq.out]; exact place_any b w hb
  have PA := hid pa
  have PB := hid pb
  clear pa pb
  by_cases c1 : p < q
  · rw [if_pos c1]
    go_enter Tryz.func79, Tryz.ntmps79
    go_wp2_with fail
    refine (PA.out _).mono ?_
    rintro e w' ⟨rfl, rfl⟩
    go_wp2_with fail
    refine (PB.out _).mono ?_
    rintro e w' ⟨rfl, rfl⟩
    go_wp2
    go_ret
    exact ⟨rfl, rfl⟩
  · rw [if_neg c1]
    by_cases c2 : q < p
    · rw [if_pos c2]
      go_enter Tryz.func79, Tryz.ntmps79
      go_wp2_with fail
      refine (PA.out _).mono ?_
      rintro e w' ⟨rfl, rfl⟩
      go_wp2_with fail
      refine (PB.out _).mono ?_
      rintro e w' ⟨rfl, rfl⟩
      go_wp2
      go_ret
      exact ⟨rfl, rfl⟩
    · rw [if_neg c2]
      go_enter Tryz.func79, Tryz.ntmps79
      go_wp2_with fail
      refine (PA.out _).mono ?_
      rintro e w' ⟨rfl, rfl⟩
      go_wp2_with fail
      refine (PB.out _).mono ?_
      rintro e w' ⟨rfl, rfl⟩
      go_wp2
      go_ret
      exact ⟨rfl, rfl⟩
theorem order_any (a b : Nat) (w : World) (ha : a < 18446744073709551616) (hb : b < 18446744073709551616) :
    Calls Tryz.prog 79 #[.float .f64 a, .float .f64 b] w fun e w' => e = .returned (.int .i64 (orderB a b)) ∧ w' = w :=
  order_at a b (placeB a) (placeB b) w ha hb rfl rfl
theorem orderB_at (a b : Nat) (o : Int) (w : World) (ha : a < 18446744073709551616) (hb : b < 18446744073709551616) (ho : Hid (orderB a b = o)) :
    Calls Tryz.prog 79 #[.float .f64 a, .float .f64 b] w fun e w' => e = .returned (.int .i64 o) ∧ w' = w := by
  rw [← ho.out]; exact order_any a b w ha hb

theorem orderB_lt (a b : Nat) : orderB a b < 0 ↔ placeB a < placeB b := by
  unfold orderB; split
  · simp_all
  · split <;> simp_all
theorem orderB_gt (a b : Nat) : 0 < orderB a b ↔ placeB b < placeB a := by
  unfold orderB; split
  · simp; omega
  · split <;> simp_all

set_option maxHeartbeats 400000 in
theorem max_any (a b : Nat) (w : World) (ha : a < 18446744073709551616) (hb : b < 18446744073709551616) :
    Calls Tryz.prog 83 #[.float .f64 a, .float .f64 b] w fun e w' => e = .returned (.float .f64 (maxB a b)) ∧ w' = w := by
  obtain ⟨r, hr⟩ : ∃ r, maxB a b = r := ⟨_, rfl⟩
  obtain ⟨o, ho⟩ : ∃ o, orderB a b = o := ⟨_, rfl⟩
  have h1 := orderB_lt a b
  rw [ho] at h1
  have HO : Hid (orderB a b = o) := ho
  have HR : Hid (r = if isN a || isN b then quiet else if o < 0 then b else a) := by
    show r = _
    rw [← hr]; unfold maxB; simp only [h1]
  rw [hr]
  clear hr ho h1
  cases nA : isN a
  · cases nB : isN b
    · have h := HR.out
      rw [nA, nB] at h
      simp only [Bool.or_self, Bool.false_eq_true, if_false] at h
      by_cases c : o < 0
      · have e1 : decide (o < 0) = true := by simp; omega
        rw [if_pos c] at h
        rw [h]
        clear c HR h
        go_enter Tryz.func83, Tryz.ntmps83
        go_wp2_with fail
        refine (isNaN_any a _ ha).mono ?_
        rintro e w' ⟨rfl, rfl⟩
        go_wp2_with fail
        refine (isNaN_any b _ hb).mono ?_
        rintro e w' ⟨rfl, rfl⟩
        go_wp2_with fail
        refine (orderB_at a b o _ ha hb HO).mono ?_
        rintro e w' ⟨rfl, rfl⟩
        go_wp2
        go_ret
        exact ⟨rfl, rfl⟩
      · have e1 : decide (o < 0) = false := by simp; omega
        rw [if_neg c] at h
        rw [h]
        clear c HR h
        go_enter Tryz.func83, Tryz.ntmps83
        go_wp2_with fail
        refine (isNaN_any a _ ha).mono ?_
        rintro e w' ⟨rfl, rfl⟩
        go_wp2_with fail
        refine (isNaN_any b _ hb).mono ?_
        rintro e w' ⟨rfl, rfl⟩
        go_wp2_with fail
        refine (orderB_at a b o _ ha hb HO).mono ?_
        rintro e w' ⟨rfl, rfl⟩
        go_wp2
        go_ret
        exact ⟨rfl, rfl⟩
    · have h := HR.out
      rw [nA, nB] at h
      simp only [Bool.or_true, if_true] at h
      rw [h]
      clear HR h
      go_enter Tryz.func83, Tryz.ntmps83
      go_wp2_with fail
      refine (isNaN_any a _ ha).mono ?_
      rintro e w' ⟨rfl, rfl⟩
      go_wp2_with fail
      refine (isNaN_any b _ hb).mono ?_
      rintro e w' ⟨rfl, rfl⟩
      go_wp2_with fail
      refine (quietNaN_any _).mono ?_
      rintro e w' ⟨rfl, rfl⟩
      go_wp2
      go_ret
      exact ⟨rfl, rfl⟩
  · have h := HR.out
    rw [nA] at h
    simp only [Bool.true_or, if_true] at h
    rw [h]
    clear HR h
    go_enter Tryz.func83, Tryz.ntmps83
    go_wp2_with fail
    refine (isNaN_any a _ ha).mono ?_
    rintro e w' ⟨rfl, rfl⟩
    go_wp2_with fail
    refine (quietNaN_any _).mono ?_
    rintro e w' ⟨rfl, rfl⟩
    go_wp2
    go_ret
    exact ⟨rfl, rfl⟩
set_option maxHeartbeats 400000 in
theorem min_any (a b : Nat) (w : World) (ha : a < 18446744073709551616) (hb : b < 18446744073709551616) :
    Calls Tryz.prog 44 #[.float .f64 a, .float .f64 b] w fun e w' => e = .returned (.float .f64 (minB a b)) ∧ w' = w := by
  obtain ⟨r, hr⟩ : ∃ r, minB a b = r := ⟨_, rfl⟩
  obtain ⟨o, ho⟩ : ∃ o, orderB a b = o := ⟨_, rfl⟩
  have h1 := orderB_gt a b
  rw [ho] at h1
  have HO : Hid (orderB a b = o) := ho
  have HR : Hid (r = if isN a || isN b then quiet else if 0 < o then b else a) := by
    show r = _
    rw [← hr]; unfold minB; simp only [h1]
  rw [hr]
  clear hr ho h1
  cases nA : isN a
  · cases nB : isN b
    · have h := HR.out
      rw [nA, nB] at h
      simp only [Bool.or_self, Bool.false_eq_true, if_false] at h
      by_cases c : 0 < o
      · have e1 : decide (0 < o) = true := by simp; omega
        rw [if_pos c] at h
        rw [h]
        clear c HR h
        go_enter Tryz.func44, Tryz.ntmps44
        go_wp2_with fail
        refine (isNaN_any a _ ha).mono ?_
        rintro e w' ⟨rfl, rfl⟩
        go_wp2_with fail
        refine (isNaN_any b _ hb).mono ?_
        rintro e w' ⟨rfl, rfl⟩
        go_wp2_with fail
        refine (orderB_at a b o _ ha hb HO).mono ?_
        rintro e w' ⟨rfl, rfl⟩
        go_wp2
        go_ret
        exact ⟨rfl, rfl⟩
      · have e1 : decide (0 < o) = false := by simp; omega
        rw [if_neg c] at h
        rw [h]
        clear c HR h
        go_enter Tryz.func44, Tryz.ntmps44
        go_wp2_with fail
        refine (isNaN_any a _ ha).mono ?_
        rintro e w' ⟨rfl, rfl⟩
        go_wp2_with fail
        refine (isNaN_any b _ hb).mono ?_
        rintro e w' ⟨rfl, rfl⟩
        go_wp2_with fail
        refine (orderB_at a b o _ ha hb HO).mono ?_
        rintro e w' ⟨rfl, rfl⟩
        go_wp2
        go_ret
        exact ⟨rfl, rfl⟩
    · have h := HR.out
      rw [nA, nB] at h
      simp only [Bool.or_true, if_true] at h
      rw [h]
      clear HR h
      go_enter Tryz.func44, Tryz.ntmps44
      go_wp2_with fail
      refine (isNaN_any a _ ha).mono ?_
      rintro e w' ⟨rfl, rfl⟩
      go_wp2_with fail
      refine (isNaN_any b _ hb).mono ?_
      rintro e w' ⟨rfl, rfl⟩
      go_wp2_with fail
      refine (quietNaN_any _).mono ?_
      rintro e w' ⟨rfl, rfl⟩
      go_wp2
      go_ret
      exact ⟨rfl, rfl⟩
  · have h := HR.out
    rw [nA] at h
    simp only [Bool.true_or, if_true] at h
    rw [h]
    clear HR h
    go_enter Tryz.func44, Tryz.ntmps44
    go_wp2_with fail
    refine (isNaN_any a _ ha).mono ?_
    rintro e w' ⟨rfl, rfl⟩
    go_wp2_with fail
    refine (quietNaN_any _).mono ?_
    rintro e w' ⟨rfl, rfl⟩
    go_wp2
    go_ret
    exact ⟨rfl, rfl⟩

/-- the NaN that an operation without an answer gives: its bits are drawn -/
def nanOf (w : World) (x y : Nat) : Nat := (Question.nanBits .f64 x y).cut (w.tape w.drawn (.nanBits .f64 x y))
theorem nanOf_lt (w : World) (x y : Nat) : nanOf w x y < 18446744073709551616 := by
  unfold nanOf Question.cut
  simp only []
  omega
theorem isN_nanOf (w : World) (x y : Nat) : isN (nanOf w x y) = true := by
  rw [isN_true]
  unfold nanOf Question.cut mg
  simp only []
  generalize w.tape w.drawn (Question.nanBits FloatKind.f64 x y) = t
  have hb : t / 2 % (2 ^ 52 - 1) < 2 ^ 52 - 1 := Nat.mod_lt _ (by omega)
  generalize t / 2 % (2 ^ 52 - 1) = b at *
  have ha : t % 2 = 0 ∨ t % 2 = 1 := by omega
  rcases ha with h | h <;> rw [h] <;> omega
theorem run_nan_sub {P : Program} (w : World) (t : TypeId) (x y : Nat) (h : Ieee.double.sub x y = none) :
    (binOp .sub t (.float .f64 x) (.float .f64 y)).run P w = .ok (.float .f64 (nanOf w x y)) w.drew := by
  have h' : FloatKind.f64.format.sub x y = none := h
  simp [binOp, Op.floatArith, h', nanOf, Question.forced]
end Go.Proofs.YtomenbbhdnfciaaGreatDoor

namespace Go.Proofs.YtomenbbhdnfciaaGreatDoor
open Go.RowKit Tf
attribute [local go_sem] run_bits run_from raw_feq raw_fne raw_flt raw_fgt

theorem run_nan_add {P : Program} (w : World) (t : TypeId) (x y : Nat) (h : Ieee.double.add x y = none) :
    (binOp .add t (.float .f64 x) (.float .f64 y)).run P w = .ok (.float .f64 (nanOf w x y)) w.drew := by
  have h' : FloatKind.f64.format.add x y = none := h
  simp [binOp, Op.floatArith, h', nanOf, Question.forced]
theorem run_nan_mul {P : Program} (w : World) (t : TypeId) (x y : Nat) (h : Ieee.double.mul x y = none) :
    (binOp .mul t (.float .f64 x) (.float .f64 y)).run P w = .ok (.float .f64 (nanOf w x y)) w.drew := by
  have h' : FloatKind.f64.format.mul x y = none := h
  simp [binOp, Op.floatArith, h', nanOf, Question.forced]

set_option maxHeartbeats 400000 in
theorem abs_any (x : Nat) (w : World) (hx : x < 18446744073709551616) :
    Calls Tryz.prog 169 #[.float .f64 x] w fun e w' => e = .returned (.float .f64 (mg x)) ∧ w' = w := by
  go_enter Tryz.func169, Tryz.ntmps169
  go_wp2
  go_ret
  refine ⟨ret_flt ?_, rfl⟩
  rw [andNot_sign x hx]; rfl

theorem rk_pos (m : Nat) (h : m < 9223372036854775808) : rk m = m := by
  unfold rk; rw [ng_of_lt h, if_neg (by decide), mg_of_lt h]
end Go.Proofs.YtomenbbhdnfciaaGreatDoor

namespace Go.Proofs.YtomenbbhdnfciaaGreatDoor
open Go.RowKit Tf
attribute [local go_sem] run_bits run_from raw_feq raw_fne raw_flt raw_fgt run_neg

theorem canon_at (x : Nat) (r : Nat) (w : World) (hx : x < 18446744073709551616) (hr : canonB x = r) :
    Calls Tryz.prog 118 #[.float .f64 x] w fun e w' => e = .returned (.float .f64 r) ∧ w' = w := by
  subst hr; exact canon_any x w hx
end Go.Proofs.YtomenbbhdnfciaaGreatDoor
