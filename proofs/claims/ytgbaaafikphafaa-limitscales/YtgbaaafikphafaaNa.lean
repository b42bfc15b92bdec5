/-
  Vectors by plain numbers: differences, products, lengths, quotients (no program).
-/
import Derived.Test.YtgbaaafikphafaaSa
namespace Go.Proofs.Ytgbaaafikphafaa
open Tf Ieee

theorem tri {a b : Nat} (ha : a < 18446744073709551616) (hb : b < 18446744073709551616) : (key a < key b ∧ ¬ key b < key a) ∨ a = b ∨ (key b < key a ∧ ¬ key a < key b) := by
  rcases Nat.lt_trichotomy (key a) (key b) with h | h | h
  · exact .inl ⟨h, by omega⟩
  · exact .inr (.inl (key_inj ha hb h))
  · exact .inr (.inr ⟨h, by omega⟩)
theorem thB_23 {a b c : Nat} (ha : a < 18446744073709551616) (hb : b < 18446744073709551616) (hc : c < 18446744073709551616) : thB a b c = thB a c b := by
  rcases tri ha hb with ⟨h1, h1'⟩ | h1 | ⟨h1, h1'⟩ <;> rcases tri ha hc with ⟨h2, h2'⟩ | h2 | ⟨h2, h2'⟩ <;> rcases tri hb hc with ⟨h3, h3'⟩ | h3 | ⟨h3, h3'⟩
  all_goals first
    | (exfalso; omega)
    | (clear ha hb hc; simp [thB, loB, hiB, *]; done)
    | (clear ha hb hc; subst_vars; first | rfl | (simp [thB, loB, hiB, *]; done))
/-- the three in order -/
theorem th_perm (a b c : Nat) : ∃ u v z, thB a b c = plB (plB u v) z ∧ ((u = a ∧ v = b ∧ z = c) ∨ (u = a ∧ v = c ∧ z = b) ∨ (u = b ∧ v = a ∧ z = c) ∨ (u = b ∧ v = c ∧ z = a) ∨ (u = c ∧ v = a ∧ z = b) ∨ (u = c ∧ v = b ∧ z = a)) := by
  unfold thB
  by_cases k1 : key b < key a
  · have lk1 : loB a b = b := by unfold loB; rw [if_pos k1]
    have gk1 : hiB a b = a := by unfold hiB; rw [if_pos k1]
    rw [lk1, gk1]
    by_cases k2 : key c < key a
    · have lk2 : loB a c = c := by unfold loB; rw [if_pos k2]
      have gk2 : hiB a c = a := by unfold hiB; rw [if_pos k2]
      rw [lk2, gk2]
      by_cases k3 : key c < key b
      · have lk3 : loB b c = c := by unfold loB; rw [if_pos k3]
        have gk3 : hiB b c = b := by unfold hiB; rw [if_pos k3]
        rw [lk3, gk3]
        exact ⟨_, _, _, rfl, by simp⟩
      · have lk3 : loB b c = b := by unfold loB; rw [if_neg k3]
        have gk3 : hiB b c = c := by unfold hiB; rw [if_neg k3]
        rw [lk3, gk3]
        exact ⟨_, _, _, rfl, by simp⟩
    · have lk2 : loB a c = a := by unfold loB; rw [if_neg k2]
      have gk2 : hiB a c = c := by unfold hiB; rw [if_neg k2]
      rw [lk2, gk2]
      by_cases k3 : key a < key b
      · have lk3 : loB b a = a := by unfold loB; rw [if_pos k3]
        have gk3 : hiB b a = b := by unfold hiB; rw [if_pos k3]
        rw [lk3, gk3]
        exact ⟨_, _, _, rfl, by simp⟩
      · have lk3 : loB b a = b := by unfold loB; rw [if_neg k3]
        have gk3 : hiB b a = a := by unfold hiB; rw [if_neg k3]
        rw [lk3, gk3]
        exact ⟨_, _, _, rfl, by simp⟩
  · have lk1 : loB a b = a := by unfold loB; rw [if_neg k1]
    have gk1 : hiB a b = b := by unfold hiB; rw [if_neg k1]
    rw [lk1, gk1]
    by_cases k2 : key c < key b
    · have lk2 : loB b c = c := by unfold loB; rw [if_pos k2]
      have gk2 : hiB b c = b := by unfold hiB; rw [if_pos k2]
      rw [lk2, gk2]
      by_cases k3 : key c < key a
      · have lk3 : loB a c = c := by unfold loB; rw [if_pos k3]
        have gk3 : hiB a c = a := by unfold hiB; rw [if_pos k3]
        rw [lk3, gk3]
        exact ⟨_, _, _, rfl, by simp⟩
      · have lk3 : loB a c = a := by unfold loB; rw [if_neg k3]
        have gk3 : hiB a c = c := by unfold hiB; rw [if_neg k3]
        rw [lk3, gk3]
        exact ⟨_, _, _, rfl, by simp⟩
    · have lk2 : loB b c = b := by unfold loB; rw [if_neg k2]
      have gk2 : hiB b c = c := by unfold hiB; rw [if_neg k2]
      rw [lk2, gk2]
      by_cases k3 : key b < key a
      · have lk3 : loB a b = b := by unfold loB; rw [if_pos k3]
        have gk3 : hiB a b = a := by unfold hiB; rw [if_pos k3]
        rw [lk3, gk3]
        exact ⟨_, _, _, rfl, by simp⟩
      · have lk3 : loB a b = a := by unfold loB; rw [if_neg k3]
        have gk3 : hiB a b = b := by unfold hiB; rw [if_neg k3]
        rw [lk3, gk3]
        exact ⟨_, _, _, rfl, by simp⟩
theorem negB_lt' {x : Nat} (hx : x < 18446744073709551616) : negB x < 18446744073709551616 := by
  unfold negB
  cases h : ng x
  · have := lt_of_ng h; simp; omega
  · simp; omega
theorem negB_mg {x : Nat} (hx : x < 18446744073709551616) : mg (negB x) = mg x := by
  unfold negB
  cases h : ng x
  · have := lt_of_ng h; simp [mg]
  · have := ge_of_ng h; simp [mg]; omega
theorem negB_ng {x : Nat} (hx : x < 18446744073709551616) : ng (negB x) = !ng x := by
  unfold negB
  cases h : ng x
  · simp [ng]
  · have := ge_of_ng h; simp [ng]; omega
theorem negB_negB' {x : Nat} (hx : x < 18446744073709551616) : negB (negB x) = x := by
  have h := negB_ng hx
  unfold negB at *
  cases k : ng x
  · rw [k] at h; simp only [Bool.false_eq_true, if_false] at h ⊢; rw [h]; simp
  · have := ge_of_ng k
    rw [k] at h; simp only [if_true] at h ⊢; rw [h]; simp; omega
theorem negB_sv {x : Nat} (hx : x < 18446744073709551616) : sv (negB x) = -sv x := by
  unfold sv
  rw [negB_ng hx, negB_mg hx]
  cases ng x <;> simp
theorem negB_isN {x : Nat} (hx : x < 18446744073709551616) : isN (negB x) = isN x := by unfold isN; rw [negB_mg hx]
theorem read_neg (x : Nat) (hx : x < 18446744073709551616) : double.read (negB x) = (double.read x).opposite := by
  have h1 : negB x % 9223372036854775808 = x % 9223372036854775808 := negB_mg hx
  have h2 : (negB x / 9223372036854775808 % 2 == 1) = !(x / 9223372036854775808 % 2 == 1) := by
    unfold negB
    cases k : ng x
    · have := lt_of_ng k
      rw [show x / 9223372036854775808 = 0 by omega]
      simp only [Bool.false_eq_true, if_false]
      rw [show (x + 9223372036854775808) / 9223372036854775808 = 1 by omega]
      rfl
    · have := ge_of_ng k
      rw [show x / 9223372036854775808 = 1 by omega]
      simp only [if_true]
      rw [show (x - 9223372036854775808) / 9223372036854775808 = 0 by omega]
      rfl
  unfold Format.read
  simp only [d_sw]
  rw [h1, h2]
  generalize x % 9223372036854775808 = r
  generalize (x / 9223372036854775808 % 2 == 1) = s
  by_cases a : r < double.binade
  · rw [if_pos a, if_pos a]; rfl
  · rw [if_neg a, if_neg a]
    by_cases b : r < double.infRung
    · rw [if_pos b, if_pos b]; rfl
    · rw [if_neg b, if_neg b]
      by_cases c : r = double.infRung
      · rw [if_pos c, if_pos c]; rfl
      · rw [if_neg c, if_neg c]; rfl
theorem sub_add (a b : Nat) (hb : b < 18446744073709551616) : double.sub a b = double.add a (negB b) := by
  unfold Format.sub Format.add; rw [read_neg b hb]
theorem mul_negneg (a b : Nat) (ha : a < 18446744073709551616) (hb : b < 18446744073709551616) : double.mul (negB a) (negB b) = double.mul a b := by
  unfold Format.mul
  rw [read_neg a ha, read_neg b hb]
  cases double.read a <;> cases double.read b <;> simp [Datum.opposite, Datum.product]
theorem mul_comm (a b : Nat) : double.mul a b = double.mul b a := by
  unfold Format.mul
  cases double.read a <;> cases double.read b <;> simp [Datum.product, Bool.xor_comm, Nat.mul_comm, Int.add_comm]
theorem addB_comm (a b : Nat) (ha : a < 18446744073709551616) (hb : b < 18446744073709551616) : addB a b = addB b a := by
  rcases three a with h1 | h1 | h1
  · rcases three b with h2 | h2 | h2
    · rw [addB_fin a b ha hb h1 h2, addB_fin b a hb ha h2 h1, Int.add_comm]
    · rw [addB_some (add_fi a b hb h1 h2), addB_some (add_if b a hb h2 h1)]
    · rw [addB_none (add_nan a b (.inr h2)), addB_none (add_nan b a (.inl h2))]
  · rcases three b with h2 | h2 | h2
    · rw [addB_some (add_if a b ha h1 h2), addB_some (add_fi b a ha h2 h1)]
    · have e1 := add_ii a b ha hb h1 h2
      have e2 := add_ii b a hb ha h2 h1
      by_cases c : ng a = ng b
      · rw [if_pos c] at e1
        rw [if_pos c.symm] at e2
        rw [addB_some e1, addB_some e2, c]
      · rw [if_neg c] at e1
        rw [if_neg (fun h => c h.symm)] at e2
        rw [addB_none e1, addB_none e2]
    · rw [addB_none (add_nan a b (.inr h2)), addB_none (add_nan b a (.inl h2))]
  · rw [addB_none (add_nan a b (.inl h1)), addB_none (add_nan b a (.inr h1))]
theorem canon_neg_quiet : canonB (negB quiet) = quiet := by decide
theorem canon_neg_inf (s : Bool) : canonB (negB (canonB (infW s))) = canonB (infW (!s)) := by cases s <;> decide
/-- opposites add up to the opposite -/
theorem addB_neg (a b : Nat) (ha : a < 18446744073709551616) (hb : b < 18446744073709551616) : addB (negB a) (negB b) = canonB (negB (addB a b)) := by
  have na := negB_lt' ha
  have nb := negB_lt' hb
  have ma := negB_mg ha
  have mb := negB_mg hb
  rcases three a with h1 | h1 | h1
  · rcases three b with h2 | h2 | h2
    · rw [addB_fin a b ha hb h1 h2, addB_fin _ _ na nb (by rw [ma]; exact h1) (by rw [mb]; exact h2), negB_sv ha, negB_sv hb, rn_negv, Int.neg_add]
    · rw [addB_some (add_fi a b hb h1 h2), addB_some (add_fi _ _ nb (by rw [ma]; exact h1) (by rw [mb]; exact h2)), negB_ng hb, canon_neg_inf]
    · rw [addB_none (add_nan a b (.inr h2)), addB_none (add_nan _ _ (.inr (by rw [negB_isN hb]; exact h2))), canon_neg_quiet]
  · rcases three b with h2 | h2 | h2
    · rw [addB_some (add_if a b ha h1 h2), addB_some (add_if _ _ na (by rw [ma]; exact h1) (by rw [mb]; exact h2)), negB_ng ha, canon_neg_inf]
    · have e1 := add_ii a b ha hb h1 h2
      have e2 := add_ii _ _ na nb (by rw [ma]; exact h1) (by rw [mb]; exact h2)
      rw [negB_ng ha, negB_ng hb] at e2
      by_cases c : ng a = ng b
      · rw [if_pos c] at e1
        rw [if_pos (by rw [c])] at e2
        rw [addB_some e1, addB_some e2, canon_neg_inf]
      · rw [if_neg c] at e1
        rw [if_neg (by simpa using c)] at e2
        rw [addB_none e1, addB_none e2, canon_neg_quiet]
    · rw [addB_none (add_nan a b (.inr h2)), addB_none (add_nan _ _ (.inr (by rw [negB_isN hb]; exact h2))), canon_neg_quiet]
  · rw [addB_none (add_nan a b (.inl h1)), addB_none (add_nan _ _ (.inl (by rw [negB_isN ha]; exact h1))), canon_neg_quiet]

/-- a difference, in the one form -/
def sbB (a b : Nat) : Nat := addB a (negB b)
theorem sbB_lt {a b : Nat} (ha : a < 18446744073709551616) (hb : b < 18446744073709551616) : sbB a b < 18446744073709551616 := addB_lt a _ ha (negB_lt' hb)
theorem sbB_anti {a b : Nat} (ha : a < 18446744073709551616) (hb : b < 18446744073709551616) : sbB b a = canonB (negB (sbB a b)) := by
  unfold sbB
  rw [← addB_neg a _ ha (negB_lt' hb), negB_negB' hb, addB_comm _ _ hb (negB_lt' ha)]
theorem sbB_negneg {a b : Nat} (ha : a < 18446744073709551616) (hb : b < 18446744073709551616) : sbB (negB a) (negB b) = canonB (negB (sbB a b)) := by
  unfold sbB
  exact addB_neg a _ ha (negB_lt' hb)
theorem canon_sbB {a b : Nat} (ha : a < 18446744073709551616) (hb : b < 18446744073709551616) : canonB (sbB a b) = sbB a b := by
  unfold sbB
  rcases add_cases a (negB b) ha (negB_lt' hb) with ⟨h1, h2⟩ | h | ⟨s, h⟩
  · rw [addB_fin a _ ha (negB_lt' hb) h1 h2, canon_rn]
  · rw [addB_none h]; decide
  · rw [addB_some h, infW_canon, infW_canon]
/-- one product, a NaN as the one -/
def mlB (a b : Nat) : Nat := match Ieee.double.mul a b with | some r => r | none => quiet
theorem mlB_some {a b r : Nat} (h : Ieee.double.mul a b = some r) : mlB a b = r := by unfold mlB; rw [h]
theorem mlB_none {a b : Nat} (h : Ieee.double.mul a b = none) : mlB a b = quiet := by unfold mlB; rw [h]
theorem mul_fact {a b r : Nat} (h : Ieee.double.mul a b = some r) (ha : a < 18446744073709551616) (hb : b < 18446744073709551616) : r < 18446744073709551616 ∧ isN r = false := by
  rcases mul_cases a b ha hb with ⟨h1, h2⟩ | h' | ⟨s, h'⟩
  · have e := mul_d a b ha hb h1 h2
    rw [h] at e
    injection e with e
    generalize rung 52 1074 (mv (mg a) * mv (mg b)) = q at e
    have hm : min q 9218868437227405312 ≤ 9218868437227405312 := Nat.min_le_right _ _
    generalize min q 9218868437227405312 = z at e hm
    rw [isN_false]
    subst e
    cases (ng a ^^ ng b)
    · simp only [Bool.false_eq_true, if_false]; exact ⟨by omega, by unfold mg; omega⟩
    · simp only [if_true]; exact ⟨by omega, by unfold mg; omega⟩
  · rw [h] at h'; cases h'
  · rw [h] at h'
    injection h' with h'
    subst h'
    exact ⟨infW_lt s, by rw [isN_false, infW_mg]; omega⟩
theorem mlB_lt {a b : Nat} (ha : a < 18446744073709551616) (hb : b < 18446744073709551616) : mlB a b < 18446744073709551616 := by
  cases h : Ieee.double.mul a b with
  | none => rw [mlB_none h]; decide
  | some r => rw [mlB_some h]; exact (mul_fact h ha hb).1
theorem mlB_q {a b : Nat} (ha : a < 18446744073709551616) (hb : b < 18446744073709551616) : qB (mlB a b) = mlB a b := by
  cases h : Ieee.double.mul a b with
  | none => rw [mlB_none h]; decide
  | some r => rw [mlB_some h]; exact qB_of (mul_fact h ha hb).2
theorem mlB_comm (a b : Nat) : mlB a b = mlB b a := by unfold mlB; rw [mul_comm]
def sqB (x : Nat) : Nat := mlB x x
theorem sqB_lt {x : Nat} (hx : x < 18446744073709551616) : sqB x < 18446744073709551616 := mlB_lt hx hx
theorem sqB_neg {x : Nat} (hx : x < 18446744073709551616) : sqB (negB x) = sqB x := by
  unfold sqB mlB; rw [mul_negneg x x hx hx]
theorem sqB_canon {x : Nat} (hx : x < 18446744073709551616) : sqB (canonB x) = sqB x := by
  unfold canonB
  cases h : isN x
  · simp only [Bool.false_eq_true, if_false]
    by_cases c : mg x = 0
    · rw [if_pos c]
      have : x = 0 ∨ x = 9223372036854775808 := by unfold mg at c; omega
      rcases this with rfl | rfl <;> decide
    · rw [if_neg c]
  · simp only [if_true]
    unfold sqB
    rw [mlB_none (mul_nan _ _ (.inl h)), mlB_none (mul_nan _ _ (.inl quiet_N))]
/-- an arithmetic of NaN: one among three makes the sum one -/
theorem plB_nan {a b : Nat} (h : isN a = true ∨ isN b = true) : plB a b = quiet := plB_none (add_nan a b h)
theorem thB_nan {a b c : Nat} (h : isN a = true ∨ isN b = true ∨ isN c = true) : thB a b c = quiet := by
  obtain ⟨u, v, z, e, hp⟩ := th_perm a b c
  rw [e]
  have hn : isN u = true ∨ isN v = true ∨ isN z = true := by
    rcases hp with ⟨rfl, rfl, rfl⟩ | ⟨rfl, rfl, rfl⟩ | ⟨rfl, rfl, rfl⟩ | ⟨rfl, rfl, rfl⟩ | ⟨rfl, rfl, rfl⟩ | ⟨rfl, rfl, rfl⟩ <;> rcases h with h | h | h <;> simp [h]
  rcases hn with k | k | k
  · rw [plB_nan (.inl k)]; exact plB_nan (.inl quiet_N)
  · rw [plB_nan (.inr k)]; exact plB_nan (.inl quiet_N)
  · exact plB_nan (.inr k)
theorem thB_q (a b c : Nat) : thB a b c = thB (qB a) (qB b) (qB c) := by
  cases h1 : isN a
  · cases h2 : isN b
    · cases h3 : isN c
      · rw [qB_of h1, qB_of h2, qB_of h3]
      · rw [thB_nan (.inr (.inr h3)), thB_nan (.inr (.inr (by rw [qB_isN]; exact h3)))]
    · rw [thB_nan (.inr (.inl h2)), thB_nan (.inr (.inl (by rw [qB_isN]; exact h2)))]
  · rw [thB_nan (.inl h1), thB_nan (.inl (by rw [qB_isN]; exact h1))]
theorem thB_lt {a b c : Nat} (ha : a < 18446744073709551616) (hb : b < 18446744073709551616) (hc : c < 18446744073709551616) : thB a b c < 18446744073709551616 := by
  obtain ⟨u, v, z, e, hp⟩ := th_perm a b c
  rw [e]
  have : u < 18446744073709551616 ∧ v < 18446744073709551616 ∧ z < 18446744073709551616 := by
    rcases hp with ⟨rfl, rfl, rfl⟩ | ⟨rfl, rfl, rfl⟩ | ⟨rfl, rfl, rfl⟩ | ⟨rfl, rfl, rfl⟩ | ⟨rfl, rfl, rfl⟩ | ⟨rfl, rfl, rfl⟩ <;> exact ⟨by assumption, by assumption, by assumption⟩
  exact plB_lt (plB_lt this.1 this.2.1) this.2.2
/-- a square root and a quotient, in the one form -/
def rtB (x : Nat) : Nat := match Ieee.double.sqrt x with | some r => canonB r | none => quiet
def dvB (a b : Nat) : Nat := match Ieee.double.div a b with | some r => canonB r | none => quiet
theorem rtB_some {x r : Nat} (h : Ieee.double.sqrt x = some r) : rtB x = canonB r := by unfold rtB; rw [h]
theorem rtB_none {x : Nat} (h : Ieee.double.sqrt x = none) : rtB x = quiet := by unfold rtB; rw [h]
theorem dvB_some {a b r : Nat} (h : Ieee.double.div a b = some r) : dvB a b = canonB r := by unfold dvB; rw [h]
theorem dvB_none {a b : Nat} (h : Ieee.double.div a b = none) : dvB a b = quiet := by unfold dvB; rw [h]
theorem canon_lt {x : Nat} (hx : x < 18446744073709551616) : canonB x < 18446744073709551616 := by
  unfold canonB; split
  · decide
  · split
    · decide
    · exact hx
theorem canon_idem (x : Nat) : canonB (canonB x) = canonB x := by
  by_cases h : isN x = true
  · rw [show canonB x = quiet by unfold canonB; rw [if_pos h]]; decide
  · by_cases c : mg x = 0
    · rw [show canonB x = 0 by unfold canonB; rw [if_neg h, if_pos c]]; decide
    · rw [show canonB x = x by unfold canonB; rw [if_neg h, if_neg c]]
      unfold canonB; rw [if_neg h, if_neg c]
theorem rtB_canon (x : Nat) : canonB (rtB x) = rtB x := by
  cases h : Ieee.double.sqrt x with
  | none => rw [rtB_none h]; decide
  | some r => rw [rtB_some h, canon_idem]
theorem dvB_canon (a b : Nat) : canonB (dvB a b) = dvB a b := by
  cases h : Ieee.double.div a b with
  | none => rw [dvB_none h]; decide
  | some r => rw [dvB_some h, canon_idem]
/-- how long -/
def lnB (x y z : Nat) : Nat := rtB (thB (sqB x) (sqB y) (sqB z))
theorem lnB_canon (x y z : Nat) : canonB (lnB x y z) = lnB x y z := rtB_canon _
theorem lnB_12 {x y z : Nat} (hx : x < 18446744073709551616) (hy : y < 18446744073709551616) : lnB x y z = lnB y x z := by
  unfold lnB; rw [thB_12 (sqB_lt hx) (sqB_lt hy)]
theorem lnB_23 {x y z : Nat} (hx : x < 18446744073709551616) (hy : y < 18446744073709551616) (hz : z < 18446744073709551616) : lnB x y z = lnB x z y := by
  unfold lnB; rw [thB_23 (sqB_lt hx) (sqB_lt hy) (sqB_lt hz)]
theorem lnB_231 {x y z : Nat} (hx : x < 18446744073709551616) (hy : y < 18446744073709551616) (hz : z < 18446744073709551616) : lnB y z x = lnB x y z := by
  rw [lnB_23 hy hz hx, lnB_12 hy hx]
theorem lnB_neg {x y z : Nat} (hx : x < 18446744073709551616) : lnB (negB x) y z = lnB x y z := by unfold lnB; rw [sqB_neg hx]
theorem lnB_cn {x y z : Nat} (hx : x < 18446744073709551616) : lnB (canonB (negB x)) y z = lnB x y z := by unfold lnB; rw [sqB_canon (negB_lt' hx), sqB_neg hx]
end Go.Proofs.Ytgbaaafikphafaa
