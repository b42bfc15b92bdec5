/-
  Some of the texts of this proof, one behind the other.
-/
import Derived.Test.YtjgbaenihkplpaaDoorZ02
import Derived.Test.YtjgbaenihkplpaaDoorZ01
import Derived.Test.YtjgbaenihkplpaaDoorZ03
import Derived.Deep.RegionWith
import Derived.BigQuiet
/-
  Vectors by plain numbers: differences, products, lengths, quotients (no program).
-/
namespace Go.Proofs.YtjgbaenihkplpaaDoor
open Tf Ieee

theorem tri {a b : Nat} (ha : a < 18446744073709551616) (hb : b < 18446744073709551616) : (key a < key b ∧ ¬ key b < key a) ∨ a = b ∨ (key b < key a ∧ ¬ key a < key b) := by
  rcases Nat.lt_trichotomy (key a) (key b) with h | h | h
  · exact .inl ⟨h, by omega⟩
  · exact .inr (.inl (key_inj ha hb h))
  · exact .inr (.inr ⟨h, by omega⟩)
theorem thB_23 {a b c : Nat} (ha : a < 18446744073709551616) (hb : b < 18446744073709551616) (hc : c < 18446744073709551616) : thB a b c = thB a c b := by
  rcases tri ha hb with ⟨h1, h1'⟩ | h1 | ⟨h1, h1'⟩ <;> rcases tri ha hc with ⟨h2, h2'⟩ | h2 | ⟨h2, h2'⟩ <;> rcases tri hb hc with ⟨h3, h3'⟩ | h3 | ⟨h3, h3'⟩
  all_goals first
    | (exfalso; omega)
    | (clear ha hb hc; simp [thB, loB, hiB, *]; done)
    | (clear ha hb hc; subst_vars; first | rfl | (simp [thB, loB, hiB, *]; done))
/-- the three in order -/
theorem th_perm (a b c : Nat) : ∃ u v z, thB a b c = plB (plB u v) z ∧ ((u = a ∧ v = b ∧ z = c) ∨ (u = a ∧ v = c ∧ z = b) ∨ (u = b ∧ v = a ∧ z = c) ∨ (u = b ∧ v = c ∧ z = a) ∨ (u = c ∧ v = a ∧ z = b) ∨ (u = c ∧ v = b ∧ z = a)) := by
  unfold thB
  by_cases k1 : key b < key a
  · have lk1 : loB a b = b := by unfold loB; rw [if_pos k1]
    have gk1 : hiB a b = a := by unfold hiB; rw [if_pos k1]
    rw [lk1, gk1]
    by_cases k2 : key c < key a
    · have lk2 : loB a c = c := by unfold loB; rw [if_pos k2]
      have gk2 : hiB a c = a := by unfold hiB; rw [if_pos k2]
      rw [lk2, gk2]
      by_cases k3 : key c < key b
      · have lk3 : loB b c = c := by unfold loB; rw [if_pos k3]
        have gk3 : hiB b c = b := by unfold hiB; rw [if_pos k3]
        rw [lk3, gk3]
        exact ⟨_, _, _, rfl, by simp⟩
      · have lk3 : loB b c = b := by unfold loB; rw [if_neg k3]
        have gk3 : hiB b c = c := by unfold hiB; rw [if_neg k3]
        rw [lk3, gk3]
        exact ⟨_, _, _, rfl, by simp⟩
    · have lk2 : loB a c = a := by unfold loB; rw [if_neg k2]
      have gk2 : hiB a c = c := by unfold hiB; rw [if_neg k2]
      rw [lk2, gk2]
      by_cases k3 : key a < key b
      · have lk3 : loB b a = a := by unfold loB; rw [if_pos k3]
        have gk3 : hiB b a = b := by unfold hiB; rw [if_pos k3]
        rw [lk3, gk3]
        exact ⟨_, _, _, rfl, by simp⟩
      · have lk3 : loB b a = b := by unfold loB; rw [if_neg k3]
        have gk3 : hiB b a = a := by unfold hiB; rw [if_neg k3]
        rw [lk3, gk3]
        exact ⟨_, _, _, rfl, by simp⟩
  · have lk1 : loB a b = a := by unfold loB; rw [if_neg k1]
    have gk1 : hiB a b = b := by unfold hiB; rw [if_neg k1]
    rw [lk1, gk1]
    by_cases k2 : key c < key b
    · have lk2 : loB b c = c := by unfold loB; rw [if_pos k2]
      have gk2 : hiB b c = b := by unfold hiB; rw [if_pos k2]
      rw [lk2, gk2]
      by_cases k3 : key c < key a
      · have lk3 : loB a c = c := by unfold loB; rw [if_pos k3]
        have gk3 : hiB a c = a := by unfold hiB; rw [if_pos k3]
        rw [lk3, gk3]
        exact ⟨_, _, _, rfl, by simp⟩
      · have lk3 : loB a c = a := by unfold loB; rw [if_neg k3]
        have gk3 : hiB a c = c := by unfold hiB; rw [if_neg k3]
        rw [lk3, gk3]
        exact ⟨_, _, _, rfl, by simp⟩
    · have lk2 : loB b c = b := by unfold loB; rw [if_neg k2]
      have gk2 : hiB b c = c := by unfold hiB; rw [if_neg k2]
      rw [lk2, gk2]
      by_cases k3 : key b < key a
      · have lk3 : loB a b = b := by unfold loB; rw [if_pos k3]
        have gk3 : hiB a b = a := by unfold hiB; rw [if_pos k3]
        rw [lk3, gk3]
        exact ⟨_, _, _, rfl, by simp⟩
      · have lk3 : loB a b = a := by unfold loB; rw [if_neg k3]
        have gk3 : hiB a b = b := by unfold hiB; rw [if_neg k3]
        rw [lk3, gk3]
        exact ⟨_, _, _, rfl, by simp⟩
theorem negB_lt' {x : Nat} (hx : x < 18446744073709551616) : negB x < 18446744073709551616 := by
  unfold negB
  cases h : ng x
  · have := lt_of_ng h; simp; omega
  · simp; omega
theorem negB_mg {x : Nat} (hx : x < 18446744073709551616) : mg (negB x) = mg x := by
  unfold negB
  cases h : ng x
  · have := lt_of_ng h; simp [mg]
  · have := ge_of_ng h; simp [mg]; omega
theorem negB_ng {x : Nat} (hx : x < 18446744073709551616) : ng (negB x) = !ng x := by
  unfold negB
  cases h : ng x
  · simp [ng]
  · have := ge_of_ng h; simp [ng]; omega
theorem negB_negB' {x : Nat} (hx : x < 18446744073709551616) : negB (negB x) = x := by
  have h := negB_ng hx
  unfold negB at *
  cases k : ng x
  · rw [k] at h; simp only [Bool.false_eq_true, if_false] at h ⊢; rw [h]; simp
  · have := ge_of_ng k
    rw [k] at h; simp only [if_true] at h ⊢; rw [h]; simp; omega
theorem negB_sv {x : Nat} (hx : x < 18446744073709551616) : sv (negB x) = -sv x := by
  unfold sv
  rw [negB_ng hx, negB_mg hx]
  cases ng x <;> simp
theorem negB_isN {x : Nat} (hx : x < 18446744073709551616) : isN (negB x) = isN x := by unfold isN; rw [negB_mg hx]
theorem read_neg (x : Nat) (hx : x < 18446744073709551616) : double.read (negB x) = (double.read x).opposite := by
  have h1 : negB x % 9223372036854775808 = x % 9223372036854775808 := negB_mg hx
  have h2 : (negB x / 9223372036854775808 % 2 == 1) = !(x / 9223372036854775808 % 2 == 1) := by
    unfold negB
    cases k : ng x
    · have := lt_of_ng k
      rw [show x / 9223372036854775808 = 0 by omega]
      simp only [Bool.false_eq_true, if_false]
      rw [show (x + 9223372036854775808) / 9223372036854775808 = 1 by omega]
      rfl
    · have := ge_of_ng k
      rw [show x / 9223372036854775808 = 1 by omega]
      simp only [if_true]
      rw [show (x - 9223372036854775808) / 9223372036854775808 = 0 by omega]
      rfl
  unfold Format.read
  simp only [d_sw]
  rw [h1, h2]
  generalize x % 9223372036854775808 = r
  generalize (x / 9223372036854775808 % 2 == 1) = s
  by_cases a : r < double.binade
  · rw [if_pos a, if_pos a]; rfl
  · rw [if_neg a, if_neg a]
    by_cases b : r < double.infRung
    · rw [if_pos b, if_pos b]; rfl
    · rw [if_neg b, if_neg b]
      by_cases c : r = double.infRung
      · rw [if_pos c, if_pos c]; rfl
      · rw [if_neg c, if_neg c]; rfl
theorem sub_add (a b : Nat) (hb : b < 18446744073709551616) : double.sub a b = double.add a (negB b) := by
  unfold Format.sub Format.add; rw [read_neg b hb]
theorem mul_negneg (a b : Nat) (ha : a < 18446744073709551616) (hb : b < 18446744073709551616) : double.mul (negB a) (negB b) = double.mul a b := by
  unfold Format.mul
  rw [read_neg a ha, read_neg b hb]
  cases double.read a <;> cases double.read b <;> simp [Datum.opposite, Datum.product]
theorem mul_comm (a b : Nat) : double.mul a b = double.mul b a := by
  unfold Format.mul
  cases double.read a <;> cases double.read b <;> simp [Datum.product, Bool.xor_comm, Nat.mul_comm, Int.add_comm]
theorem addB_comm (a b : Nat) (ha : a < 18446744073709551616) (hb : b < 18446744073709551616) : addB a b = addB b a := by
  rcases three a with h1 | h1 | h1
  · rcases three b with h2 | h2 | h2
    · rw [addB_fin a b ha hb h1 h2, addB_fin b a hb ha h2 h1, Int.add_comm]
    · rw [addB_some (add_fi a b hb h1 h2), addB_some (add_if b a hb h2 h1)]
    · rw [addB_none (add_nan a b (.inr h2)), addB_none (add_nan b a (.inl h2))]
  · rcases three b with h2 | h2 | h2
    · rw [addB_some (add_if a b ha h1 h2), addB_some (add_fi b a ha h2 h1)]
    · have e1 := add_ii a b ha hb h1 h2
      have e2 := add_ii b a hb ha h2 h1
      by_cases c : ng a = ng b
      · rw [if_pos c] at e1
        rw [if_pos c.symm] at e2
        rw [addB_some e1, addB_some e2, c]
      · rw [if_neg c] at e1
        rw [if_neg (fun h => c h.symm)] at e2
        rw [addB_none e1, addB_none e2]
    · rw [addB_none (add_nan a b (.inr h2)), addB_none (add_nan b a (.inl h2))]
  · rw [addB_none (add_nan a b (.inl h1)), addB_none (add_nan b a (.inr h1))]
theorem canon_neg_quiet : canonB (negB quiet) = quiet := by decide
theorem canon_neg_inf (s : Bool) : canonB (negB (canonB (infW s))) = canonB (infW (!s)) := by cases s <;> decide
/-- opposites add up to the opposite -/
theorem addB_neg (a b : Nat) (ha : a < 18446744073709551616) (hb : b < 18446744073709551616) : addB (negB a) (negB b) = canonB (negB (addB a b)) := by
  have na := negB_lt' ha
  have nb := negB_lt' hb
  have ma := negB_mg ha
  have mb := negB_mg hb
  rcases three a with h1 | h1 | h1
  · rcases three b with h2 | h2 | h2
    · rw [addB_fin a b ha hb h1 h2, addB_fin _ _ na nb (by rw [ma]; exact h1) (by rw [mb]; exact h2), negB_sv ha, negB_sv hb, rn_negv, Int.neg_add]
    · rw [addB_some (add_fi a b hb h1 h2), addB_some (add_fi _ _ nb (by rw [ma]; exact h1) (by rw [mb]; exact h2)), negB_ng hb, canon_neg_inf]
    · rw [addB_none (add_nan a b (.inr h2)), addB_none (add_nan _ _ (.inr (by rw [negB_isN hb]; exact h2))), canon_neg_quiet]
  · rcases three b with h2 | h2 | h2
    · rw [addB_some (add_if a b ha h1 h2), addB_some (add_if _ _ na (by rw [ma]; exact h1) (by rw [mb]; exact h2)), negB_ng ha, canon_neg_inf]
    · have e1 := add_ii a b ha hb h1 h2
      have e2 := add_ii _ _ na nb (by rw [ma]; exact h1) (by rw [mb]; exact h2)
      rw [negB_ng ha, negB_ng hb] at e2
      by_cases c : ng a = ng b
      · rw [if_pos c] at e1
        rw [if_pos (by rw [c])] at e2
        rw [addB_some e1, addB_some e2, canon_neg_inf]
      · rw [if_neg c] at e1
        rw [if_neg (by simpa using c)] at e2
        rw [addB_none e1, addB_none e2, canon_neg_quiet]
    · rw [addB_none (add_nan a b (.inr h2)), addB_none (add_nan _ _ (.inr (by rw [negB_isN hb]; exact h2))), canon_neg_quiet]
  · rw [addB_none (add_nan a b (.inl h1)), addB_none (add_nan _ _ (.inl (by rw [negB_isN ha]; exact h1))), canon_neg_quiet]

/-- a difference, in the one form -/
def sbB (a b : Nat) : Nat := addB a (negB b)
theorem sbB_lt {a b : Nat} (ha : a < 18446744073709551616) (hb : b < 18446744073709551616) : sbB a b < 18446744073709551616 := addB_lt a _ ha (negB_lt' hb)
theorem sbB_anti {a b : Nat} (ha : a < 18446744073709551616) (hb : b < 18446744073709551616) : sbB b a = canonB (negB (sbB a b)) := by
  unfold sbB
  rw [← addB_neg a _ ha (negB_lt' hb), negB_negB' hb, addB_comm _ _ hb (negB_lt' ha)]
theorem sbB_negneg {a b : Nat} (ha : a < 18446744073709551616) (hb : b < 18446744073709551616) : sbB (negB a) (negB b) = canonB (negB (sbB a b)) := by
  unfold sbB
  exact addB_neg a _ ha (negB_lt' hb)
theorem canon_sbB {a b : Nat} (ha : a < 18446744073709551616) (hb : b < 18446744073709551616) : canonB (sbB a b) = sbB a b := by
  unfold sbB
  rcases add_cases a (negB b) ha (negB_lt' hb) with ⟨h1, h2⟩ | h | ⟨s, h⟩
  · rw [addB_fin a _ ha (negB_lt' hb) h1 h2, canon_rn]
  · rw [addB_none h]; decide
  · rw [addB_some h, infW_canon, infW_canon]
/-- one product, a NaN as the one -/
def mlB (a b : Nat) : Nat := match Ieee.double.mul a b with | some r => r | none => quiet
theorem mlB_some {a b r : Nat} (h : Ieee.double.mul a b = some r) : mlB a b = r := by unfold mlB; rw [h]
theorem mlB_none {a b : Nat} (h : Ieee.double.mul a b = none) : mlB a b = quiet := by unfold mlB; rw [h]
theorem mul_fact {a b r : Nat} (h : Ieee.double.mul a b = some r) (ha : a < 18446744073709551616) (hb : b < 18446744073709551616) : r < 18446744073709551616 ∧ isN r = false := by
  rcases mul_cases a b ha hb with ⟨h1, h2⟩ | h' | ⟨s, h'⟩
  · have e := mul_d a b ha hb h1 h2
    rw [h] at e
    injection e with e
    generalize rung 52 1074 (mv (mg a) * mv (mg b)) = q at e
    have hm : min q 9218868437227405312 ≤ 9218868437227405312 := Nat.min_le_right _ _
    generalize min q 9218868437227405312 = z at e hm
    rw [isN_false]
    subst e
    cases (ng a ^^ ng b)
    · simp only [Bool.false_eq_true, if_false]; exact ⟨by omega, by unfold mg; omega⟩
    · simp only [if_true]; exact ⟨by omega, by unfold mg; omega⟩
  · rw [h] at h'; cases h'
  · rw [h] at h'
    injection h' with h'
    subst h'
    exact ⟨infW_lt s, by rw [isN_false, infW_mg]; omega⟩
theorem mlB_lt {a b : Nat} (ha : a < 18446744073709551616) (hb : b < 18446744073709551616) : mlB a b < 18446744073709551616 := by
  cases h : Ieee.double.mul a b with
  | none => rw [mlB_none h]; decide
  | some r => rw [mlB_some h]; exact (mul_fact h ha hb).1
theorem mlB_q {a b : Nat} (ha : a < 18446744073709551616) (hb : b < 18446744073709551616) : qB (mlB a b) = mlB a b := by
  cases h : Ieee.double.mul a b with
  | none => rw [mlB_none h]; decide
  | some r => rw [mlB_some h]; exact qB_of (mul_fact h ha hb).2
theorem mlB_comm (a b : Nat) : mlB a b = mlB b a := by unfold mlB; rw [mul_comm]
def sqB (x : Nat) : Nat := mlB x x
theorem sqB_lt {x : Nat} (hx : x < 18446744073709551616) : sqB x < 18446744073709551616 := mlB_lt hx hx
theorem sqB_neg {x : Nat} (hx : x < 18446744073709551616) : sqB (negB x) = sqB x := by
  unfold sqB mlB; rw [mul_negneg x x hx hx]
theorem sqB_canon {x : Nat} (hx : x < 18446744073709551616) : sqB (canonB x) = sqB x := by
  unfold canonB
  cases h : isN x
  · simp only [Bool.false_eq_true, if_false]
    by_cases c : mg x = 0
    · rw [if_pos c]
      have : x = 0 ∨ x = 9223372036854775808 := by unfold mg at c; omega
      rcases this with rfl | rfl <;> decide
    · rw [if_neg c]
  · simp only [if_true]
    unfold sqB
    rw [mlB_none (mul_nan _ _ (.inl h)), mlB_none (mul_nan _ _ (.inl quiet_N))]
/-- an arithmetic of NaN: one among three makes the sum one -/
theorem plB_nan {a b : Nat} (h : isN a = true ∨ isN b = true) : plB a b = quiet := plB_none (add_nan a b h)
theorem thB_nan {a b c : Nat} (h : isN a = true ∨ isN b = true ∨ isN c = true) : thB a b c = quiet := by
  obtain ⟨u, v, z, e, hp⟩ := th_perm a b c
  rw [e]
  have hn : isN u = true ∨ isN v = true ∨ isN z = true := by
    rcases hp with ⟨rfl, rfl, rfl⟩ | ⟨rfl, rfl, rfl⟩ | ⟨rfl, rfl, rfl⟩ | ⟨rfl, rfl, rfl⟩ | ⟨rfl, rfl, rfl⟩ | ⟨rfl, rfl, rfl⟩ <;> rcases h with h | h | h <;> simp [h]
  rcases hn with k | k | k
  · rw [plB_nan (.inl k)]; exact plB_nan (.inl quiet_N)
  · rw [plB_nan (.inr k)]; exact plB_nan (.inl quiet_N)
  · exact plB_nan (.inr k)
theorem thB_q (a b c : Nat) : thB a b c = thB (qB a) (qB b) (qB c) := by
  cases h1 : isN a
  · cases h2 : isN b
    · cases h3 : isN c
      · rw [qB_of h1, qB_of h2, qB_of h3]
      · rw [thB_nan (.inr (.inr h3)), thB_nan (.inr (.inr (by rw [qB_isN]; exact h3)))]
    · rw [thB_nan (.inr (.inl h2)), thB_nan (.inr (.inl (by rw [qB_isN]; exact h2)))]
  · rw [thB_nan (.inl h1), thB_nan (.inl (by rw [qB_isN]; exact h1))]
theorem thB_lt {a b c : Nat} (ha : a < 18446744073709551616) (hb : b < 18446744073709551616) (hc : c < 18446744073709551616) : thB a b c < 18446744073709551616 := by
  obtain ⟨u, v, z, e, hp⟩ := th_perm a b c
  rw [e]
  have : u < 18446744073709551616 ∧ v < 18446744073709551616 ∧ z < 18446744073709551616 := by
    rcases hp with ⟨rfl, rfl, rfl⟩ | ⟨rfl, rfl, rfl⟩ | ⟨rfl, rfl, rfl⟩ | ⟨rfl, rfl, rfl⟩ | ⟨rfl, rfl, rfl⟩ | ⟨rfl, rfl, rfl⟩ <;> exact ⟨by assumption, by assumption, by assumption⟩
  exact plB_lt (plB_lt this.1 this.2.1) this.2.2
/-- a square root and a quotient, in the one form -/
def rtB (x : Nat) : Nat := match Ieee.double.sqrt x with | some r => canonB r | none => quiet
def dvB (a b : Nat) : Nat := match Ieee.double.div a b with | some r => canonB r | none => quiet
theorem rtB_some {x r : Nat} (h : Ieee.double.sqrt x = some r) : rtB x = canonB r := by unfold rtB; rw [h]
theorem rtB_none {x : Nat} (h : Ieee.double.sqrt x = none) : rtB x = quiet := by unfold rtB; rw [h]
theorem dvB_some {a b r : Nat} (h : Ieee.double.div a b = some r) : dvB a b = canonB r := by unfold dvB; rw [h]
theorem dvB_none {a b : Nat} (h : Ieee.double.div a b = none) : dvB a b = quiet := by unfold dvB; rw [h]
theorem canon_lt {x : Nat} (hx : x < 18446744073709551616) : canonB x < 18446744073709551616 := by
  unfold canonB; split
  · decide
  · split
    · decide
    · exact hx
theorem canon_idem (x : Nat) : canonB (canonB x) = canonB x := by
  by_cases h : isN x = true
  · rw [show canonB x = quiet by unfold canonB; rw [if_pos h]]; decide
  · by_cases c : mg x = 0
    · rw [show canonB x = 0 by unfold canonB; rw [if_neg h, if_pos c]]; decide
    · rw [show canonB x = x by unfold canonB; rw [if_neg h, if_neg c]]
      unfold canonB; rw [if_neg h, if_neg c]
theorem rtB_canon (x : Nat) : canonB (rtB x) = rtB x := by
  cases h : Ieee.double.sqrt x with
  | none => rw [rtB_none h]; decide
  | some r => rw [rtB_some h, canon_idem]
theorem dvB_canon (a b : Nat) : canonB (dvB a b) = dvB a b := by
  cases h : Ieee.double.div a b with
  | none => rw [dvB_none h]; decide
  | some r => rw [dvB_some h, canon_idem]
/-- how long -/
def lnB (x y z : Nat) : Nat := rtB (thB (sqB x) (sqB y) (sqB z))
theorem lnB_canon (x y z : Nat) : canonB (lnB x y z) = lnB x y z := rtB_canon _
theorem lnB_12 {x y z : Nat} (hx : x < 18446744073709551616) (hy : y < 18446744073709551616) : lnB x y z = lnB y x z := by
  unfold lnB; rw [thB_12 (sqB_lt hx) (sqB_lt hy)]
theorem lnB_23 {x y z : Nat} (hx : x < 18446744073709551616) (hy : y < 18446744073709551616) (hz : z < 18446744073709551616) : lnB x y z = lnB x z y := by
  unfold lnB; rw [thB_23 (sqB_lt hx) (sqB_lt hy) (sqB_lt hz)]
theorem lnB_231 {x y z : Nat} (hx : x < 18446744073709551616) (hy : y < 18446744073709551616) (hz : z < 18446744073709551616) : lnB y z x = lnB x y z := by
  rw [lnB_23 hy hz hx, lnB_12 hy hx]
theorem lnB_neg {x y z : Nat} (hx : x < 18446744073709551616) : lnB (negB x) y z = lnB x y z := by unfold lnB; rw [sqB_neg hx]
theorem lnB_cn {x y z : Nat} (hx : x < 18446744073709551616) : lnB (canonB (negB x)) y z = lnB x y z := by unfold lnB; rw [sqB_canon (negB_lt' hx), sqB_neg hx]
end Go.Proofs.YtjgbaenihkplpaaDoor

/-
  What doubling does, by plain numbers (no program).
-/
namespace Go.Proofs.YtjgbaenihkplpaaDoor
open Tf Ieee

theorem mv_dbl {r : Nat} (h : 4503599627370496 ≤ r) : mv (r + 4503599627370496) = 2 * mv r := by
  unfold mv mag
  have e : (2 : Nat) ^ 52 = 4503599627370496 := by decide
  rw [if_neg (by omega), if_neg (by omega), e]
  have h1 : (r + 4503599627370496) % 4503599627370496 = r % 4503599627370496 := by omega
  have h2 : (r + 4503599627370496) / 4503599627370496 - 1 = (r / 4503599627370496 - 1) + 1 := by omega
  rw [h1, h2, Nat.pow_add, Nat.pow_one, ← Nat.mul_assoc, Nat.mul_comm]
theorem rung_dbl {d V : Nat} (h0 : V ≠ 0) (h : 52 + d ≤ V.log2) : rung 52 d (V * 2) = rung 52 d V + 4503599627370496 := by
  unfold rung
  have hl : (V * 2).log2 = V.log2 + 1 := by
    have := log2_mul_pow V 1 h0
    rwa [Nat.pow_one] at this
  have e : (2 : Nat) ^ 52 = 4503599627370496 := by decide
  rw [hl, show V.log2 + 1 - (52 + d) = (V.log2 - (52 + d)) + 1 by omega, show (V.log2 - (52 + d)) + 1 + d = (V.log2 - (52 + d) + d) + 1 by omega]
  rw [Nat.pow_succ 2 (V.log2 - (52 + d) + d), rne_scale _ _ 2 (by omega), e]
  omega
theorem rung_big {d V : Nat} (h : 52 + d ≤ V.log2) (h0 : V ≠ 0) : 4503599627370496 ≤ rung 52 d V := by
  have e : mag 52 4503599627370496 = 2 ^ 52 := by decide
  refine rung_ge (by omega) ?_
  rw [e, ← Nat.pow_add]
  exact Nat.le_trans (Nat.pow_le_pow_right (by omega) h) (Nat.log2_self_le h0)
/-- the double of a word -/
def db (x : Nat) : Nat := if mg x = 0 then x else x + 4503599627370496
theorem db_mg {x : Nat} (h : mg x = 0 ∨ mg x + 4503599627370496 < 9223372036854775808) : mg (db x) = if mg x = 0 then 0 else mg x + 4503599627370496 := by
  unfold db
  by_cases c : mg x = 0
  · rw [if_pos c, if_pos c, c]
  · rw [if_neg c, if_neg c]
    have h := h.resolve_left c
    unfold mg at *
    omega
theorem db_ng {x : Nat} (h : mg x = 0 ∨ mg x + 4503599627370496 < 9223372036854775808) (hx : x < 18446744073709551616) : ng (db x) = ng x := by
  unfold db
  by_cases c : mg x = 0
  · rw [if_pos c]
  · rw [if_neg c]
    have h := h.resolve_left c
    unfold mg at *
    unfold ng
    by_cases k : 9223372036854775808 ≤ x
    · rw [decide_eq_true k, decide_eq_true (by omega)]
    · rw [decide_eq_false k, decide_eq_false (by omega)]
theorem db_lt {x : Nat} (h : mg x = 0 ∨ mg x + 4503599627370496 < 9223372036854775808) (hx : x < 18446744073709551616) : db x < 18446744073709551616 := by
  unfold db
  by_cases c : mg x = 0
  · rw [if_pos c]; exact hx
  · rw [if_neg c]
    have h := h.resolve_left c
    unfold mg at *
    omega
/-- nought, or a number far from both ends -/
def Md (x : Nat) : Prop := mg x = 0 ∨ (4503599627370496 ≤ mg x ∧ mg x + 4503599627370496 < 9218868437227405312)
theorem Md.w {x : Nat} (h : Md x) : mg x = 0 ∨ mg x + 4503599627370496 < 9223372036854775808 := by rcases h with h | h; exact .inl h; exact .inr (by omega)
theorem Md.fin {x : Nat} (h : Md x) : mg x < 9218868437227405312 := by rcases h with h | h <;> omega
theorem Md.dfin {x : Nat} (h : Md x) : mg (db x) < 9218868437227405312 := by
  rw [db_mg h.w]
  rcases h with h | h
  · rw [if_pos h]; omega
  · rw [if_neg (by omega)]; omega
theorem db_sv {x : Nat} (h : Md x) (hx : x < 18446744073709551616) : sv (db x) = 2 * sv x := by
  unfold sv
  rw [db_ng h.w hx, db_mg h.w]
  rcases h with h | h
  · rw [if_pos h, h, mv_zero]; cases ng x <;> rfl
  · rw [if_neg (show ¬ mg x = 0 by omega), mv_dbl h.1]
    cases ng x <;> simp <;> omega
theorem db_neg {x : Nat} (h : Md x) (hx : x < 18446744073709551616) : db (negB x) = negB (db x) := by
  have e := db_ng h.w hx
  unfold db at *
  rw [negB_mg hx]
  by_cases c : mg x = 0
  · rw [if_pos c, if_pos c]
  · rw [if_neg c] at *
    rw [if_neg c]
    unfold negB
    rw [e]
    cases k : ng x
    · simp only [Bool.false_eq_true, if_false, Nat.add_assoc, Nat.add_comm 9223372036854775808]
    · have := ge_of_ng k
      simp only [if_true]; omega
theorem Md.neg {x : Nat} (h : Md x) (hx : x < 18446744073709551616) : Md (negB x) := by unfold Md; rw [negB_mg hx]; exact h
/-- a rounded number doubled -/
theorem rn_dbl (z : Bool) {v : Int} (h : v = 0 ∨ (4503599627370496 ≤ v.natAbs ∧ rung 52 0 v.natAbs + 4503599627370496 ≤ 9218868437227405312)) : rn z (2 * v) = db (rn z v) := by
  rcases h with rfl | ⟨h1, h2⟩
  · rw [Int.mul_zero, rn_zero]; cases z <;> decide
  · have hv : v ≠ 0 := by intro h; rw [h] at h1; simp at h1
    have h0 : v.natAbs ≠ 0 := by omega
    have hlog : 52 + 0 ≤ v.natAbs.log2 := by
      have e : (2 : Nat) ^ 52 = 4503599627370496 := by decide
      rcases Nat.lt_or_ge v.natAbs.log2 52 with k | k
      · have := Nat.lt_log2_self (n := v.natAbs)
        have h3 : 2 ^ (v.natAbs.log2 + 1) ≤ 2 ^ 52 := Nat.pow_le_pow_right (by omega) (by omega)
        omega
      · omega
    have hr := rung_dbl h0 hlog
    have hb := rung_big hlog h0
    have e2 : (2 * v).natAbs = v.natAbs * 2 := by omega
    have hm : mg (rn z v) = rung 52 0 v.natAbs := by rw [rn_mg]; omega
    unfold db
    rw [hm, if_neg (by omega)]
    unfold rn
    rw [if_neg hv, if_neg (show ¬ 2 * v = 0 by omega), e2, hr]
    generalize rung 52 0 v.natAbs = r at *
    rw [Nat.min_eq_left (by omega), Nat.min_eq_left (by omega)]
    by_cases c : v < 0
    · rw [decide_eq_true c, decide_eq_true (show 2 * v < 0 by omega)]; simp; omega
    · rw [decide_eq_false c, decide_eq_false (show ¬ 2 * v < 0 by omega)]; simp
end Go.Proofs.YtjgbaenihkplpaaDoor

/-
  Doubled numbers: their sums, products, squares, roots and quotients, by plain numbers (no program).
-/
namespace Go.Proofs.YtjgbaenihkplpaaDoor
open Tf Ieee
theorem mul_w {x y : Nat} (hx : x < 18446744073709551616) (hy : y < 18446744073709551616) (fx : mg x < 9218868437227405312) (fy : mg y < 9218868437227405312) :
    mlB x y = if (ng x ^^ ng y) then 9223372036854775808 + min (rung 52 1074 (mv (mg x) * mv (mg y))) 9218868437227405312 else min (rung 52 1074 (mv (mg x) * mv (mg y))) 9218868437227405312 :=
  mlB_some (mul_d x y hx hy fx fy)
theorem rung_none (d : Nat) : rung 52 d 0 = 0 := by
  have := rung_mag 52 d 0 (by omega)
  rwa [mag_zero, Nat.zero_mul] at this
/-- a word by its sign and its rung -/
def wd (s : Bool) (r : Nat) : Nat := if s then 9223372036854775808 + r else r
theorem wd_mg {s : Bool} {r : Nat} (h : r < 9223372036854775808) : mg (wd s r) = r := by unfold wd mg; cases s <;> simp <;> omega
theorem wd_db {s : Bool} {r : Nat} (h : r < 9223372036854775808) (h0 : r ≠ 0) : db (wd s r) = wd s (r + 4503599627370496) := by
  unfold db
  rw [wd_mg h, if_neg h0]
  unfold wd
  cases s <;> simp <;> omega
theorem wd_dz (s : Bool) : db (wd s 0) = wd s 0 := by cases s <;> decide
/-- the product of two such numbers stays far from both ends -/
def Far (x y : Nat) : Prop := (mg x = 0 ∨ mg y = 0) ∨ (52 + 1074 ≤ (mv (mg x) * mv (mg y)).log2 ∧ rung 52 1074 (mv (mg x) * mv (mg y)) + 4503599627370496 < 9218868437227405312)
theorem mlB_db {x y : Nat} (hx : x < 18446744073709551616) (hy : y < 18446744073709551616) (mx : Md x) (my : Md y) (h : Far x y) : mlB (db x) y = db (mlB x y) := by
  rw [mul_w (db_lt mx.w hx) hy mx.dfin my.fin, mul_w hx hy mx.fin my.fin, db_ng mx.w hx, db_mg mx.w]
  show wd (ng x ^^ ng y) _ = db (wd (ng x ^^ ng y) _)
  generalize (ng x ^^ ng y) = s
  rcases h with h | ⟨h1, h2⟩
  · have e1 : mv (if mg x = 0 then 0 else mg x + 4503599627370496) * mv (mg y) = 0 := by
      rcases h with h | h
      · rw [if_pos h, mv_zero, Nat.zero_mul]
      · rw [h, mv_zero, Nat.mul_zero]
    have e2 : mv (mg x) * mv (mg y) = 0 := by
      rcases h with h | h
      · rw [h, mv_zero, Nat.zero_mul]
      · rw [h, mv_zero, Nat.mul_zero]
    rw [e1, e2, rung_none, Nat.zero_min, wd_dz]
  · have h0 : mv (mg x) * mv (mg y) ≠ 0 := by
      intro e
      rw [e] at h1
      simp at h1
    have hx0 : mg x ≠ 0 := by intro e; rw [e, mv_zero, Nat.zero_mul] at h0; exact h0 rfl
    have hb := rung_big h1 h0
    rw [if_neg hx0, mv_dbl (mx.resolve_left hx0).1, show 2 * mv (mg x) * mv (mg y) = mv (mg x) * mv (mg y) * 2 by rw [Nat.mul_comm 2, Nat.mul_right_comm], rung_dbl h0 h1]
    generalize rung 52 1074 (mv (mg x) * mv (mg y)) = r at *
    rw [Nat.min_eq_left (by omega), Nat.min_eq_left (by omega), wd_db (by omega) (by omega)]
theorem mlB_Md {x y : Nat} (hx : x < 18446744073709551616) (hy : y < 18446744073709551616) (mx : Md x) (my : Md y) (h : Far x y) : Md (mlB x y) := by
  rw [mul_w hx hy mx.fin my.fin]
  show Md (wd (ng x ^^ ng y) _)
  unfold Md
  rcases h with h | ⟨h1, h2⟩
  · have e2 : mv (mg x) * mv (mg y) = 0 := by
      rcases h with h | h
      · rw [h, mv_zero, Nat.zero_mul]
      · rw [h, mv_zero, Nat.mul_zero]
    rw [e2, rung_none, Nat.zero_min, wd_mg (by omega)]
    exact .inl rfl
  · have h0 : mv (mg x) * mv (mg y) ≠ 0 := by
      intro e
      rw [e] at h1
      simp at h1
    have hb := rung_big h1 h0
    generalize rung 52 1074 (mv (mg x) * mv (mg y)) = r at *
    rw [Nat.min_eq_left (by omega), wd_mg (by omega)]
    exact .inr ⟨hb, h2⟩
theorem mlB_dbr {x y : Nat} (hx : x < 18446744073709551616) (hy : y < 18446744073709551616) (mx : Md x) (my : Md y) (h : Far x y) : mlB x (db y) = db (mlB x y) := by
  rw [mlB_comm x (db y), mlB_comm x y]
  refine mlB_db hy hx my mx ?_
  rcases h with h | h
  · exact .inl h.symm
  · rw [Nat.mul_comm] at h; exact .inr h
/-- two times a number -/
theorem two_db {x : Nat} (hx : x < 18446744073709551616) (h : Md x) : mlB 4611686018427387904 x = db x := by
  have m2 : mv 4611686018427387904 = 2 ^ K * 2 := by
    have := mv_from_one 1 4611686018427387904 (by decide)
    rw [this, one_pow, Nat.pow_one, Nat.mul_comm]
  rw [mul_w (by decide) hx (by decide) h.fin, show mg 4611686018427387904 = 4611686018427387904 by decide, m2, show ng 4611686018427387904 = false by decide, Bool.false_xor]
  have es : 2 ^ K * 2 * mv (mg x) = (mv (mg x) * 2) * 2 ^ K := by rw [Nat.mul_comm (2 ^ K) 2, Nat.mul_comm, ← Nat.mul_assoc]
  have er : rung 52 1074 ((mv (mg x) * 2) * 2 ^ K) = rung 52 0 (mv (mg x) * 2) := by
    have h := rung_scale 52 0 K (mv (mg x) * 2)
    rw [Nat.zero_add] at h
    exact h
  rw [es, er]
  have hw := word_eq x hx
  rcases h with h | ⟨h1, h2⟩
  · rw [h, mv_zero, Nat.zero_mul, rung_none, Nat.zero_min]
    rw [h] at hw
    unfold db
    rw [if_pos h]
    exact hw.symm
  · have hm : mv (mg x) ≠ 0 := by
      intro e
      have := (mv_inj (r := mg x) (r' := 0)).1 (by rw [e, mv_zero])
      omega
    have hl : 52 + 0 ≤ (mv (mg x)).log2 := by
      have e : (2 : Nat) ^ 52 = 4503599627370496 := by decide
      have h3 : 2 ^ 52 ≤ mv (mg x) := by
        have : mv 4503599627370496 ≤ mv (mg x) := mv_le.2 h1
        rwa [show mv 4503599627370496 = 2 ^ 52 by decide] at this
      exact (Nat.le_log2 hm).2 h3
    rw [rung_dbl hm hl, rung_mv, Nat.min_eq_left (by omega)]
    unfold db
    rw [if_neg (show ¬ mg x = 0 by omega)]
    clear er es m2
    generalize mg x = r at *
    cases k : ng x
    · rw [k] at hw; simp at hw ⊢; omega
    · rw [k] at hw; simp at hw ⊢; omega
end Go.Proofs.YtjgbaenihkplpaaDoor

/-
  Roots and quotients of doubled numbers, by plain numbers (no program).
-/
namespace Go.Proofs.YtjgbaenihkplpaaDoor
open Tf Ieee
def sgn (x : Nat) : Bool := x / 9223372036854775808 % 2 == 1
theorem read_norm {x : Nat} (h1 : 4503599627370496 ≤ mg x) (h2 : mg x < 9218868437227405312) :
    double.read x = .number (sgn x) (4503599627370496 + mg x % 4503599627370496) (double.leastPlace + ((mg x / 4503599627370496 - 1 : Nat) : Int)) := by
  unfold Format.read
  simp only [d_sw, d_bin, d_inf]
  have hmg : x % 9223372036854775808 = mg x := rfl
  rw [hmg, if_neg (by omega), if_pos h2]
  rfl
theorem read_zero {x : Nat} (h : mg x = 0) : double.read x = .number (sgn x) 0 double.leastPlace := by
  unfold Format.read
  simp only [d_sw, d_bin, d_inf]
  have hmg : x % 9223372036854775808 = mg x := rfl
  rw [hmg, if_pos (by omega), h]
  rfl
theorem sgn_ng {x : Nat} (hx : x < 18446744073709551616) : sgn x = ng x := by
  unfold sgn ng
  by_cases c : 9223372036854775808 ≤ x
  · rw [show x / 9223372036854775808 = 1 by omega, decide_eq_true c]; rfl
  · rw [show x / 9223372036854775808 = 0 by omega, decide_eq_false c]; rfl
/-- the whole root -/
theorem root_bound (n : Nat) : ∀ t r, r * r ≤ n → n < (r + 2 ^ t) * (r + 2 ^ t) → Datum.rootFrom n t r * Datum.rootFrom n t r ≤ n ∧ n < (Datum.rootFrom n t r + 1) * (Datum.rootFrom n t r + 1) := by
  intro t
  induction t with
  | zero => intro r h1 h2; exact ⟨h1, h2⟩
  | succ t ih =>
    intro r h1 h2
    unfold Datum.rootFrom
    have e : 1 <<< t = 2 ^ t := by rw [Nat.shiftLeft_eq, Nat.one_mul]
    simp only [e]
    by_cases c : (r + 2 ^ t) * (r + 2 ^ t) ≤ n
    · rw [if_pos c]
      refine ih _ c ?_
      rw [show r + 2 ^ t + 2 ^ t = r + 2 ^ (t + 1) by rw [Nat.pow_succ]; omega]
      exact h2
    · rw [if_neg c]
      exact ih _ h1 (by omega)
def isq (n : Nat) : Nat := Datum.rootFrom n (n.log2 / 2 + 1) 0
theorem isq_spec (n : Nat) : isq n * isq n ≤ n ∧ n < (isq n + 1) * (isq n + 1) := by
  refine root_bound n _ 0 (by omega) ?_
  rw [Nat.zero_add, ← Nat.pow_add]
  by_cases h : n = 0
  · rw [h]; exact Nat.two_pow_pos _
  · exact Nat.lt_of_lt_of_le Nat.lt_log2_self (Nat.pow_le_pow_right (by omega) (by omega))
def rtM (m : Nat) (i : Int) : Nat := (108 - m.log2) + ((i - ((108 - m.log2 : Nat) : Int)) % 2).toNat
def rtW (m s : Nat) : Nat := 2 * isq (m <<< s) + (isq (m <<< s) * isq (m <<< s) != m <<< s).toNat
theorem root_eq {m : Nat} (i : Int) (h : m ≠ 0) : Datum.root 54 (.number false m i) = some (.number false (rtW m (rtM m i)) ((i - (rtM m i : Nat)) / 2 - 1)) := by
  unfold Datum.root
  dsimp only
  rw [if_neg h]
  rfl
theorem sqrt_eq {T : Nat} (hT : T < 18446744073709551616) (hn : ng T = false) (h1 : 4503599627370496 ≤ mg T) (h2 : mg T < 9218868437227405312) :
    double.sqrt T = some (double.nearest false (rtW (4503599627370496 + mg T % 4503599627370496) (rtM (4503599627370496 + mg T % 4503599627370496) (double.leastPlace + ((mg T / 4503599627370496 - 1 : Nat) : Int))))
      ((double.leastPlace + ((mg T / 4503599627370496 - 1 : Nat) : Int) - (rtM (4503599627370496 + mg T % 4503599627370496) (double.leastPlace + ((mg T / 4503599627370496 - 1 : Nat) : Int)) : Nat)) / 2 - 1)) := by
  show ((double.read T).root 54).map double.write = _
  rw [read_norm h1 h2, sgn_ng hT, hn, root_eq _ (by omega)]
  rfl
theorem log_m (q : Nat) (h : q < 4503599627370496) : (4503599627370496 + q).log2 = 52 := by
  refine log2_of (k := 52) ?_ ?_
  · have e : (2 : Nat) ^ 52 = 4503599627370496 := by decide
    omega
  · have e : (2 : Nat) ^ (52 + 1) = 9007199254740992 := by decide
    omega
theorem rtM_val {m : Nat} (i : Int) (h : m.log2 = 52) : 56 ≤ rtM m i ∧ rtM m i ≤ 57 ∧ rtM m (i + 2) = rtM m i ∧ (i - (rtM m i : Nat)) % 2 = 0 := by
  unfold rtM
  rw [h]
  omega
theorem rtW_val {m s : Nat} (h1 : 4503599627370496 ≤ m) (h2 : m < 9007199254740992) (hs : 56 ≤ s ∧ s ≤ 57) : 18014398509481984 ≤ rtW m s ∧ rtW m s < 144115188075855872 := by
  obtain ⟨a, b⟩ := isq_spec (m <<< s)
  have e : m <<< s = m * 2 ^ s := Nat.shiftLeft_eq ..
  have hc : (isq (m <<< s) * isq (m <<< s) != m <<< s).toNat ≤ 1 := by cases (isq (m <<< s) * isq (m <<< s) != m <<< s) <;> decide
  unfold rtW
  generalize (isq (m <<< s) * isq (m <<< s) != m <<< s).toNat = c at *
  generalize isq (m <<< s) = q at *
  rw [e] at a b
  have lo : 4503599627370496 * 2 ^ 56 ≤ m * 2 ^ s := Nat.mul_le_mul h1 (Nat.pow_le_pow_right (by omega) hs.1)
  have hi : m * 2 ^ s ≤ 9007199254740992 * 2 ^ 57 := Nat.mul_le_mul (by omega) (Nat.pow_le_pow_right (by omega) hs.2)
  generalize m * 2 ^ s = n at *
  have k1 : 9007199254740992 ≤ q := by
    rcases Nat.lt_or_ge q 9007199254740992 with k | k
    · have : (q + 1) * (q + 1) ≤ 9007199254740992 * 9007199254740992 := Nat.mul_le_mul (by omega) (by omega)
      omega
    · exact k
  have k2 : q < 72057594037927935 := by
    rcases Nat.lt_or_ge q 72057594037927935 with k | k
    · exact k
    · have : 72057594037927935 * 72057594037927935 ≤ q * q := Nat.mul_le_mul k k
      omega
  omega
def Er16 : Nat := 1548
theorem mv_E16 : mv 6976075822796898304 = 2 ^ (52 + Er16) := mv_two_pow Er16 _ (by decide)
theorem le_E16 {W d : Nat} (hW : W ≤ 2 ^ 57) (hd : d ≤ 1531) : W * 2 ^ d ≤ mv 6976075822796898304 := by
  have hE : 57 + d ≤ 52 + Er16 := by
    have : Er16 = 1548 := rfl
    omega
  rw [mv_E16]
  refine Nat.le_trans (Nat.mul_le_mul_right _ hW) ?_
  rw [← Nat.pow_add]
  exact Nat.pow_le_pow_right (by omega) hE
theorem rung_E16 {V : Nat} (h : V ≤ mv 6976075822796898304) : rung 52 0 V ≤ 6976075822796898304 := by
  refine rung_le (by omega) ?_
  rw [Nat.pow_zero, Nat.mul_one]
  exact h
/-- the root of a number four times as great -/
theorem sqrt_quad {T : Nat} (hT : T < 18446744073709551616) (hn : ng T = false) (h1 : 4503599627370496 ≤ mg T) (h2 : mg T + 9007199254740992 < 9218868437227405312) :
    ∃ r, 4503599627370496 ≤ r ∧ r ≤ 6976075822796898304 ∧ double.sqrt T = some r ∧ double.sqrt (T + 9007199254740992) = some (r + 4503599627370496) := by
  have hTm : T = mg T := by rw [mg_of_lt (lt_of_ng hn)]
  have hT2 : mg (T + 9007199254740992) = mg T + 9007199254740992 := by unfold mg; unfold mg at h2; have := lt_of_ng hn; omega
  have hn2 : ng (T + 9007199254740992) = false := ng_of_lt (by omega)
  have e1 := sqrt_eq hT hn h1 (by omega)
  have e2 := sqrt_eq (T := T + 9007199254740992) (by omega) hn2 (by omega) (by omega)
  rw [hT2, show (mg T + 9007199254740992) % 4503599627370496 = mg T % 4503599627370496 by omega, show (mg T + 9007199254740992) / 4503599627370496 - 1 = (mg T / 4503599627370496 - 1) + 2 by omega] at e2
  have hq : mg T % 4503599627370496 < 4503599627370496 := Nat.mod_lt _ (by omega)
  generalize hm : 4503599627370496 + mg T % 4503599627370496 = m at e1 e2
  have hl : m.log2 = 52 := by rw [← hm]; exact log_m _ hq
  have hk : mg T / 4503599627370496 - 1 ≤ 2045 := by omega
  generalize mg T / 4503599627370496 - 1 = k at e1 e2 hk
  rw [show double.leastPlace + ((k + 2 : Nat) : Int) = double.leastPlace + (k : Int) + 2 by omega] at e2
  have hlp := d_lp
  generalize hi : double.leastPlace + (k : Int) = i at e1 e2
  obtain ⟨m1, m2, m3, m4⟩ := rtM_val i hl
  rw [m3] at e2
  generalize rtM m i = s at *
  obtain ⟨w1, w2⟩ := rtW_val (m := m) (s := s) (by omega) (by omega) ⟨m1, m2⟩
  generalize rtW m s = W at *
  obtain ⟨d, hd⟩ : ∃ d : Nat, (i - (s : Int)) / 2 - 1 = double.leastPlace + (d : Int) := ⟨((i - (s : Int)) / 2 - 1 - double.leastPlace).toNat, by omega⟩
  have hd2 : (i + 2 - (s : Int)) / 2 - 1 = double.leastPlace + ((d + 1 : Nat) : Int) := by omega
  have hdle : d ≤ 1531 := by omega
  rw [nearest_up double false W d _ hd, d_word, d_inf] at e1
  rw [nearest_up double false W (d + 1) _ hd2, d_word, d_inf, Nat.pow_succ, ← Nat.mul_assoc] at e2
  have h0 : W * 2 ^ d ≠ 0 := Nat.mul_ne_zero (by omega) (by have := Nat.two_pow_pos d; omega)
  have hlog : 52 + 0 ≤ (W * 2 ^ d).log2 := by
    refine (Nat.le_log2 h0).2 ?_
    have e : (2 : Nat) ^ (52 + 0) = 4503599627370496 := by decide
    rw [e]
    have := Nat.two_pow_pos d
    exact Nat.le_trans (by omega) (Nat.le_mul_of_pos_right W this)
  have hb := rung_big hlog h0
  have hr := rung_dbl h0 hlog
  have hW57 : W ≤ 2 ^ 57 := by
    have e : (2 : Nat) ^ 57 = 144115188075855872 := by decide
    omega
  have hle := rung_E16 (le_E16 hW57 hdle)
  have hfb : double.fractionBits = 52 := rfl
  rw [hfb] at e1 e2
  rw [hr] at e2
  generalize rung 52 0 (W * 2 ^ d) = r at *
  simp only [Bool.false_eq_true, if_false] at e1 e2
  rw [Nat.min_eq_left (by omega)] at e1 e2
  exact ⟨r, hb, hle, e1, e2⟩
/-- the root of what is doubled twice -/
theorem rtB_db {T : Nat} (hT : T < 18446744073709551616) (hn : ng T = false) (h : mg T = 0 ∨ (4503599627370496 ≤ mg T ∧ mg T + 9007199254740992 < 9218868437227405312)) :
    rtB (db (db T)) = db (rtB T) ∧ Md (rtB T) := by
  have hTm : T = mg T := by rw [mg_of_lt (lt_of_ng hn)]
  rcases h with h | ⟨h1, h2⟩
  · have : T = 0 := by omega
    subst this
    have e : rtB 0 = 0 := by decide +kernel
    rw [show db (db 0) = 0 by decide, e]
    exact ⟨by decide, .inl (by decide)⟩
  · obtain ⟨r, r1, r2, e1, e2⟩ := sqrt_quad hT hn h1 h2
    have ed : db (db T) = T + 9007199254740992 := by
      have : db T = T + 4503599627370496 := by unfold db; rw [if_neg (by omega)]
      have h3 : mg (T + 4503599627370496) ≠ 0 := by unfold mg; have := lt_of_ng hn; omega
      have h4 : db (T + 4503599627370496) = T + 4503599627370496 + 4503599627370496 := by unfold db; rw [if_neg h3]
      have h5 : T + 4503599627370496 + 4503599627370496 = T + 9007199254740992 := by omega
      exact (congrArg db this).trans (h4.trans h5)
    have hm : mg r = r := mg_of_lt (by omega)
    have hm2 : mg (r + 4503599627370496) = r + 4503599627370496 := mg_of_lt (by omega)
    have c1 : canonB r = r := by unfold canonB; rw [if_neg (by rw [isN_true]; omega), if_neg (by omega)]
    have c2 : canonB (r + 4503599627370496) = r + 4503599627370496 := by unfold canonB; rw [if_neg (by rw [isN_true]; omega), if_neg (by omega)]
    rw [ed, rtB_some e1, rtB_some e2, c1, c2]
    refine ⟨?_, .inr ⟨by omega, by omega⟩⟩
    unfold db
    rw [if_neg (by omega)]
/-- the quotient of two doubled numbers -/
theorem dvB_db {x l : Nat} (hx : x < 18446744073709551616) (hl : l < 18446744073709551616) (mx : Md x) (ml : Md l) (l0 : mg l ≠ 0) : dvB (db x) (db l) = dvB x l := by
  have nl := ml.resolve_left l0
  have el := read_norm (x := l) nl.1 (by omega)
  have edl := read_norm (x := db l) (by rw [db_mg ml.w, if_neg l0]; omega) ml.dfin
  rw [db_mg ml.w, if_neg l0, sgn_ng (db_lt ml.w hl), db_ng ml.w hl, ← sgn_ng hl, show (mg l + 4503599627370496) % 4503599627370496 = mg l % 4503599627370496 by omega, show (mg l + 4503599627370496) / 4503599627370496 - 1 = (mg l / 4503599627370496 - 1) + 1 by omega] at edl
  have hdv : double.div (db x) (db l) = double.div x l := by
    show ((double.read (db x)).quotient 54 (double.read (db l))).map double.write = ((double.read x).quotient 54 (double.read l)).map double.write
    rw [edl, el]
    have hn : 4503599627370496 + mg l % 4503599627370496 ≠ 0 := by omega
    generalize 4503599627370496 + mg l % 4503599627370496 = n at *
    generalize mg l / 4503599627370496 - 1 = b
    rcases mx with h | h
    · have hd : db x = x := by unfold db; rw [if_pos h]
      rw [hd, read_zero h]
      unfold Datum.quotient
      dsimp only
      rw [if_neg hn, if_neg hn]
      simp [Format.write, Format.nearest]
    · have mx' : Md x := .inr h
      have ex := read_norm (x := x) h.1 (by omega)
      have edx := read_norm (x := db x) (by rw [db_mg mx'.w, if_neg (by omega)]; omega) mx'.dfin
      rw [db_mg mx'.w, if_neg (show ¬ mg x = 0 by omega), sgn_ng (db_lt mx'.w hx), db_ng mx'.w hx, ← sgn_ng hx, show (mg x + 4503599627370496) % 4503599627370496 = mg x % 4503599627370496 by omega, show (mg x + 4503599627370496) / 4503599627370496 - 1 = (mg x / 4503599627370496 - 1) + 1 by omega] at edx
      rw [edx, ex]
      unfold Datum.quotient
      dsimp only
      rw [if_neg hn, if_neg hn]
      generalize double.leastPlace = lp
      congr 4
      omega
  unfold dvB
  rw [hdv]
end Go.Proofs.YtjgbaenihkplpaaDoor

/-
  Square roots, held against halfway points, by plain numbers (no program).
-/
namespace Go.Proofs.YtjgbaenihkplpaaDoor
open Tf Ieee
/-- the whole root twice, and one more where that isn't all -/
def stW (n : Nat) : Nat := 2 * isq n + (isq n * isq n != n).toNat
theorem st_lt {n y : Nat} (h : y * y < n) : 2 * y < stW n := by
  obtain ⟨a, b⟩ := isq_spec n
  unfold stW
  generalize isq n = q at *
  have h1 : y ≤ q := by
    rcases Nat.lt_or_ge q y with k | k
    · have := Nat.mul_le_mul (show q + 1 ≤ y by omega) (show q + 1 ≤ y by omega)
      omega
    · exact k
  by_cases c : y = q
  · subst c
    have : (y * y != n) = true := by simp; omega
    rw [this]; simp
  · have : (q * q != n).toNat ≤ 1 := by cases (q * q != n) <;> decide
    omega
theorem st_gt {n y : Nat} (h : n < y * y) : stW n < 2 * y := by
  obtain ⟨a, b⟩ := isq_spec n
  unfold stW
  generalize isq n = q at *
  have h1 : q < y := by
    rcases Nat.lt_or_ge q y with k | k
    · exact k
    · have := Nat.mul_le_mul k k
      omega
  have : (q * q != n).toNat ≤ 1 := by cases (q * q != n) <;> decide
  omega
theorem st_le {n y : Nat} (h : y * y ≤ n) : 2 * y ≤ stW n := by
  obtain ⟨a, b⟩ := isq_spec n
  unfold stW
  generalize isq n = q at *
  have h1 : y ≤ q := by
    rcases Nat.lt_or_ge q y with k | k
    · have := Nat.mul_le_mul (show q + 1 ≤ y by omega) (show q + 1 ≤ y by omega)
      omega
    · exact k
  omega
theorem mv_parts {r : Nat} (h : 4503599627370496 ≤ r) : mv r = (4503599627370496 + r % 4503599627370496) * 2 ^ (r / 4503599627370496 - 1) := by
  unfold mv mag
  have e : (2 : Nat) ^ 52 = 4503599627370496 := by decide
  rw [if_neg (by omega), e]
theorem mv_next (r : Nat) : mv (r + 1) = mv r + 2 ^ (r / 4503599627370496 - 1) := by
  have e : (2 : Nat) ^ 52 = 4503599627370496 := by decide
  have h := mag_succ 52 r
  unfold gap at h
  rw [e] at h
  exact h
/-- two numbers side by side that are great enough: their sum is a multiple of 2 ^ (d + 2) -/
theorem mid_mult {r d : Nat} (h : (d + 3) * 4503599627370496 ≤ r) : ∃ y, mv r + mv (r + 1) = y * 2 ^ (d + 2) := by
  rw [mv_next, mv_parts (by omega)]
  obtain ⟨j, hj⟩ : ∃ j, r / 4503599627370496 - 1 = d + 2 + j := by
    have : d + 3 ≤ r / 4503599627370496 := (Nat.le_div_iff_mul_le (by omega)).2 h
    exact ⟨r / 4503599627370496 - 1 - (d + 2), by omega⟩
  rw [hj]
  refine ⟨(2 * (4503599627370496 + r % 4503599627370496) + 1) * 2 ^ j, ?_⟩
  rw [Nat.pow_add 2 (d + 2) j]
  generalize 4503599627370496 + r % 4503599627370496 = a
  generalize 2 ^ (d + 2) = b
  generalize 2 ^ j = c
  rw [show a * (b * c) + (a * (b * c) + b * c) = (2 * a + 1) * (b * c) by rw [Nat.add_mul, Nat.mul_assoc 2, Nat.one_mul]; omega, Nat.mul_comm b c, Nat.mul_assoc]
theorem one_mult {r d : Nat} (h : (d + 3) * 4503599627370496 ≤ r) : ∃ y, 2 * mv r = y * 2 ^ (d + 2) := by
  rw [mv_parts (by omega)]
  obtain ⟨j, hj⟩ : ∃ j, r / 4503599627370496 - 1 = d + 2 + j := by
    have : d + 3 ≤ r / 4503599627370496 := (Nat.le_div_iff_mul_le (by omega)).2 h
    exact ⟨r / 4503599627370496 - 1 - (d + 2), by omega⟩
  rw [hj]
  refine ⟨2 * (4503599627370496 + r % 4503599627370496) * 2 ^ j, ?_⟩
  rw [Nat.pow_add 2 (d + 2) j]
  generalize 4503599627370496 + r % 4503599627370496 = a
  generalize 2 ^ (d + 2) = b
  generalize 2 ^ j = c
  rw [Nat.mul_comm b c, ← Nat.mul_assoc, ← Nat.mul_assoc]
theorem great_rung {r d W : Nat} (hW : 18014398509481984 ≤ W) (h : W * 2 ^ d < mv r) : (d + 3) * 4503599627370496 < r := by
  have e2 := mv_two_pow (d + 2) ((d + 3) * 4503599627370496) (by
    have e : (2 : Nat) ^ 52 = 4503599627370496 := by decide
    rw [e])
  have e3 : 2 ^ (52 + (d + 2)) = 18014398509481984 * 2 ^ d := by
    rw [show 52 + (d + 2) = 54 + d by omega, Nat.pow_add]
  have h1 : 18014398509481984 * 2 ^ d ≤ W * 2 ^ d := Nat.mul_le_mul_right _ hW
  have : mv ((d + 3) * 4503599627370496) < mv r := by omega
  exact mv_lt.1 this
theorem sq_scale (y d : Nat) : (y * 2 ^ (d + 2)) * (y * 2 ^ (d + 2)) = y * y * 2 ^ (2 * d + 4) := by
  rw [show 2 * d + 4 = (d + 2) + (d + 2) by omega, Nat.pow_add 2 (d + 2) (d + 2)]
  generalize 2 ^ (d + 2) = b
  rw [Nat.mul_mul_mul_comm]
theorem four_scale (n d : Nat) : 4 * (n * 2 ^ (2 * d + 2)) = n * 2 ^ (2 * d + 4) := by
  rw [show 2 * d + 4 = (2 * d + 2) + 2 by omega, Nat.pow_add 2 (2 * d + 2) 2]
  generalize 2 ^ (2 * d + 2) = b
  rw [show (2 : Nat) ^ 2 = 4 by decide, Nat.mul_comm b 4, Nat.mul_left_comm]
/-- above halfway: the root is at least the upper one -/
theorem rt_low {n d r : Nat} (hW : 18014398509481984 ≤ stW n) (h : (mv r + mv (r + 1)) * (mv r + mv (r + 1)) < 4 * (n * 2 ^ (2 * d + 2))) : r + 1 ≤ rung 52 0 (stW n * 2 ^ d) := by
  rcases Nat.lt_or_ge (stW n * 2 ^ d) (mv (r + 1)) with c | c
  · have hr := great_rung hW c
    obtain ⟨y, hy⟩ := mid_mult (r := r) (d := d) (by omega)
    rw [hy, sq_scale, four_scale] at h
    have h1 : y * y < n := Nat.lt_of_mul_lt_mul_right h
    have h2 := st_lt h1
    have h3 : mv r + mv (r + 1) < 2 * (stW n * 2 ^ d) := by
      rw [hy, show d + 2 = d + 1 + 1 by omega, Nat.pow_succ, Nat.pow_succ]
      have := (Nat.mul_lt_mul_right (Nat.two_pow_pos d)).2 h2
      generalize 2 ^ d = b at *
      generalize stW n = W at *
      have e1 : y * (b * 2 * 2) = 2 * (2 * y * b) := by rw [show b * 2 * 2 = b * 4 by omega, show 2 * (2 * y * b) = y * b * 4 by rw [Nat.mul_assoc 2 y b]; omega, Nat.mul_assoc]
      omega
    have hlow : mv r ≤ stW n * 2 ^ d := by
      have := mv_le (r := r) (r' := r + 1)
      omega
    have := rung_between 52 0 r (stW n * 2 ^ d) (by omega) (by rw [Nat.pow_zero, Nat.mul_one]; exact hlow) (by rw [Nat.pow_zero, Nat.mul_one]; exact c)
    rw [if_pos (.inl (by rw [Nat.pow_zero, Nat.mul_one]; exact h3))] at this
    omega
  · exact rung_ge (by omega) (by rw [Nat.pow_zero, Nat.mul_one]; exact c)
/-- below halfway: the root is at most the lower one -/
theorem rt_up {n d r : Nat} (hW : 18014398509481984 ≤ stW n) (h : 4 * (n * 2 ^ (2 * d + 2)) < (mv r + mv (r + 1)) * (mv r + mv (r + 1))) : rung 52 0 (stW n * 2 ^ d) ≤ r := by
  rcases Nat.lt_or_ge (stW n * 2 ^ d) (mv (r + 1)) with c | c
  · rcases Nat.lt_or_ge (mv r) (stW n * 2 ^ d) with c2 | c2
    · have hr := great_rung hW c
      obtain ⟨y, hy⟩ := mid_mult (r := r) (d := d) (by omega)
      rw [hy, sq_scale, four_scale] at h
      have h1 : n < y * y := Nat.lt_of_mul_lt_mul_right h
      have h2 := st_gt h1
      have h3 : 2 * (stW n * 2 ^ d) < mv r + mv (r + 1) := by
        rw [hy, show d + 2 = d + 1 + 1 by omega, Nat.pow_succ, Nat.pow_succ]
        have := (Nat.mul_lt_mul_right (Nat.two_pow_pos d)).2 h2
        generalize 2 ^ d = b at *
        generalize stW n = W at *
        have e1 : y * (b * 2 * 2) = 2 * (2 * y * b) := by rw [show b * 2 * 2 = b * 4 by omega, show 2 * (2 * y * b) = y * b * 4 by rw [Nat.mul_assoc 2 y b]; omega, Nat.mul_assoc]
        omega
      have := rung_between 52 0 r (stW n * 2 ^ d) (by omega) (by rw [Nat.pow_zero, Nat.mul_one]; exact Nat.le_of_lt c2) (by rw [Nat.pow_zero, Nat.mul_one]; exact c)
      rw [if_neg (by rw [Nat.pow_zero, Nat.mul_one]; show ¬ (mv r + mv (r + 1) < _ ∨ (mv r + mv (r + 1) = _ ∧ _)); omega)] at this
      omega
    · exact rung_le (by omega) (by rw [Nat.pow_zero, Nat.mul_one]; exact c2)
  · exfalso
    have hr : 2 * mv (r + 1) ≤ 2 * (stW n * 2 ^ d) := by omega
    have hn := (mv_le (r := r) (r' := r + 1)).2 (by omega)
    have c3 : mv r + mv (r + 1) ≤ 2 * mv (r + 1) := by omega
    -- the root is no less than the upper one, so halfway is below it
    by_cases g : (d + 3) * 4503599627370496 ≤ r
    · obtain ⟨y, hy⟩ := mid_mult (r := r) (d := d) g
      rw [hy, sq_scale, four_scale] at h
      have h1 : n < y * y := Nat.lt_of_mul_lt_mul_right h
      have h2 := st_gt h1
      have := (Nat.mul_lt_mul_right (Nat.two_pow_pos d)).2 h2
      rw [hy, show d + 2 = d + 1 + 1 by omega, Nat.pow_succ, Nat.pow_succ] at c3
      generalize 2 ^ d = b at *
      generalize stW n = W at *
      have e1 : y * (b * 2 * 2) = 2 * (2 * y * b) := by rw [show b * 2 * 2 = b * 4 by omega, show 2 * (2 * y * b) = y * b * 4 by rw [Nat.mul_assoc 2 y b]; omega, Nat.mul_assoc]
      omega
    · -- both are small: twice the upper one is at most 2 ^ (55 + d), and the root is at least that half
      have e2 := mv_two_pow (d + 2) ((d + 3) * 4503599627370496) (by
        have e : (2 : Nat) ^ 52 = 4503599627370496 := by decide
        rw [e])
      have hle : mv (r + 1) ≤ mv ((d + 3) * 4503599627370496) := mv_le.2 (by omega)
      have h5 : (mv r + mv (r + 1)) * (mv r + mv (r + 1)) ≤ (2 * 2 ^ (52 + (d + 2))) * (2 * 2 ^ (52 + (d + 2))) := Nat.mul_le_mul (by omega) (by omega)
      have h6 : (2 * 2 ^ (52 + (d + 2))) * (2 * 2 ^ (52 + (d + 2))) = 9007199254740992 * 9007199254740992 * 2 ^ (2 * d + 4) := by
        rw [show 2 * 2 ^ (52 + (d + 2)) = 9007199254740992 * 2 ^ (d + 2) by rw [Nat.pow_add 2 52 (d + 2), ← Nat.mul_assoc], sq_scale]
      rw [four_scale] at h
      have h7 : n < 9007199254740992 * 9007199254740992 := by
        refine Nat.lt_of_mul_lt_mul_right (a := 2 ^ (2 * d + 4)) ?_
        omega
      have := st_gt h7
      omega
/-- what the root of a number is -/
theorem sqrt_core {T : Nat} (hT : T < 18446744073709551616) (hn : ng T = false) (h1 : 4503599627370496 ≤ mg T) (h2 : mg T < 9218868437227405312) :
    ∃ n d, mv (mg T) * 2 ^ K = n * 2 ^ (2 * d + 2) ∧ 18014398509481984 ≤ stW n ∧ rtB T = rung 52 0 (stW n * 2 ^ d) ∧ 4503599627370496 ≤ rtB T ∧ rtB T ≤ 6976075822796898304 := by
  have e1 := sqrt_eq hT hn h1 h2
  have hp := mv_parts h1
  have hq : mg T % 4503599627370496 < 4503599627370496 := Nat.mod_lt _ (by omega)
  generalize hm : 4503599627370496 + mg T % 4503599627370496 = m at e1 hp
  have hl : m.log2 = 52 := by rw [← hm]; exact log_m _ hq
  have hk : mg T / 4503599627370496 - 1 ≤ 2045 := by omega
  generalize mg T / 4503599627370496 - 1 = k at e1 hp hk
  have hlp := d_lp
  generalize hi : double.leastPlace + (k : Int) = i at e1
  obtain ⟨m1, m2, m3, m4⟩ := rtM_val i hl
  generalize rtM m i = s at *
  obtain ⟨w1, w2⟩ := rtW_val (m := m) (s := s) (by omega) (by omega) ⟨m1, m2⟩
  have hst : rtW m s = stW (m <<< s) := rfl
  obtain ⟨d, hd⟩ : ∃ d : Nat, (i - (s : Int)) / 2 - 1 = double.leastPlace + (d : Int) := ⟨((i - (s : Int)) / 2 - 1 - double.leastPlace).toNat, by omega⟩
  have hdle : d ≤ 1531 := by omega
  have hks : k + K = s + (2 * d + 2) := by
    have : K = 1074 := rfl
    omega
  rw [nearest_up double false (rtW m s) d _ hd, d_word, d_inf] at e1
  generalize rtW m s = W at *
  have h0 : W * 2 ^ d ≠ 0 := Nat.mul_ne_zero (by omega) (by have := Nat.two_pow_pos d; omega)
  have hlog : 52 + 0 ≤ (W * 2 ^ d).log2 := by
    refine (Nat.le_log2 h0).2 ?_
    have e : (2 : Nat) ^ (52 + 0) = 4503599627370496 := by decide
    rw [e]
    have := Nat.two_pow_pos d
    exact Nat.le_trans (by omega) (Nat.le_mul_of_pos_right W this)
  have hb := rung_big hlog h0
  have hW57 : W ≤ 2 ^ 57 := by
    have e : (2 : Nat) ^ 57 = 144115188075855872 := by decide
    omega
  have hle := rung_E16 (le_E16 hW57 hdle)
  have hfb : double.fractionBits = 52 := rfl
  rw [hfb] at e1
  refine ⟨m <<< s, d, ?_, by omega, ?_⟩
  · rw [hp, Nat.shiftLeft_eq, Nat.mul_assoc, ← Nat.pow_add, hks, Nat.pow_add, ← Nat.mul_assoc]
  · rw [← hst]
    generalize rung 52 0 (W * 2 ^ d) = r at *
    simp only [Bool.false_eq_true, if_false] at e1
    rw [Nat.min_eq_left (by omega)] at e1
    have hmr : mg r = r := mg_of_lt (by omega)
    have c1 : canonB r = r := by unfold canonB; rw [if_neg (by rw [isN_true]; omega), if_neg (by omega)]
    rw [rtB_some e1, c1]
    exact ⟨rfl, hb, hle⟩
end Go.Proofs.YtjgbaenihkplpaaDoor

/-
  Sums by pairs: walks over the program.
-/
namespace Go.Proofs.YtjgbaenihkplpaaDoor
open Go.RowKit Tf
attribute [local go_sem] run_bits run_from raw_feq raw_fne raw_flt raw_fgt run_neg

/-- a list that was laid just now -/
theorem fl_new (w : World) (T : TypeId) (c : Array Value) (xs : Nat → Nat) (n : Nat) (h : ∀ k, k < n → xs k < 18446744073709551616 ∧ c[k]? = some (.float .f64 (xs k))) : IsFl (w.alloc (.cells c T)) (some ⟨w.heap.size, 0, none⟩) n xs := by
  intro k hk
  refine ⟨(h k hk).1, w.heap.size, 0, rfl, by simp, ?_⟩
  rw [Nat.zero_add]
  have := (h k hk).2
  simp [this]
end Go.Proofs.YtjgbaenihkplpaaDoor
