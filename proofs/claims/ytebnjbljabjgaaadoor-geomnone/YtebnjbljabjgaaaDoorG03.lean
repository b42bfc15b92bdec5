/-
  Some of the texts of this proof, one behind the other.
-/
import Derived.Test.YtebnjbljabjgaaaDoorG02
namespace Go.Proofs.YtebnjbljabjgaaaDoor.Cu
/-- a cell's number; its face, i and j -/
def nm (n f i j : Nat) : Nat := (f * n + j) * n + i
def cf (n c : Nat) : Nat := c / n / n
def ci (n c : Nat) : Nat := c % n
def cj (n c : Nat) : Nat := c / n % n
theorem nm_dec {n f i j : Nat} (hi : i < n) (hj : j < n) : cf n (nm n f i j) = f ∧ ci n (nm n f i j) = i ∧ cj n (nm n f i j) = j := by
  have h1 : nm n f i j / n = f * n + j := by
    unfold nm
    rw [Nat.mul_comm, Nat.mul_add_div (by omega), Nat.div_eq_of_lt hi, Nat.add_zero]
  have h2 : (f * n + j) / n = f := by rw [Nat.mul_comm, Nat.mul_add_div (by omega), Nat.div_eq_of_lt hj, Nat.add_zero]
  refine ⟨?_, ?_, ?_⟩
  · unfold cf; rw [h1, h2]
  · unfold ci nm; rw [Nat.mul_comm, Nat.mul_add_mod, Nat.mod_eq_of_lt hi]
  · unfold cj; rw [h1, Nat.mul_comm, Nat.mul_add_mod, Nat.mod_eq_of_lt hj]
theorem nm_lt {n f i j : Nat} (hf : f < 6) (hi : i < n) (hj : j < n) : nm n f i j < 6 * n * n := by
  unfold nm
  have a : f * n + j < 6 * n := by
    have : f * n + n ≤ 6 * n := by
      have := Nat.mul_le_mul_right n (show f + 1 ≤ 6 by omega)
      rwa [Nat.add_mul, Nat.one_mul] at this
    omega
  have b : (f * n + j) * n + n ≤ 6 * n * n := by
    have := Nat.mul_le_mul_right n (show f * n + j + 1 ≤ 6 * n by omega)
    rwa [Nat.add_mul (f * n + j) 1 n, Nat.one_mul] at this
  omega
theorem dec_lt {n c : Nat} (hn : 1 ≤ n) (hc : c < 6 * n * n) : cf n c < 6 ∧ ci n c < n ∧ cj n c < n ∧ nm n (cf n c) (ci n c) (cj n c) = c := by
  refine ⟨?_, Nat.mod_lt _ (by omega), Nat.mod_lt _ (by omega), ?_⟩
  · unfold cf
    rw [Nat.div_div_eq_div_mul]
    refine Nat.div_lt_of_lt_mul ?_
    rw [Nat.mul_comm (n * n) 6, ← Nat.mul_assoc]
    exact hc
  · unfold nm cf ci cj
    have h1 : c / n / n * n + c / n % n = c / n := by rw [Nat.mul_comm]; exact Nat.div_add_mod _ _
    rw [h1, Nat.mul_comm]
    exact Nat.div_add_mod _ _
/-- the number of the cell a ahead and b to the left, seen in way s -/
def Pn (n f s a b : Nat) : Nat := nm n f (atI n s a b) (atJ n s a b)
/-- the cell beside a cell, and its side -/
def bsC (n c s : Nat) : Nat :=
  if ah n s (ci n c) (cj n c) + 1 < n then Pn n (cf n c) s (ah n s (ci n c) (cj n c) + 1) (lf n s (ci n c) (cj n c))
  else Pn n (nf (cf n c) s) (ns (cf n c) s) 0 (lf n s (ci n c) (cj n c))
def bsS (n c s : Nat) : Nat := if ah n s (ci n c) (cj n c) + 1 < n then (s + 2) % 4 else (ns (cf n c) s + 2) % 4
/-- what a turn makes of a cell, and of its sides -/
def tnC (n t c : Nat) : Nat := Pn n (tf t (cf n c)) (tq t (cf n c)) (ci n c) (cj n c)
def tnS (n t c : Nat) : Nat := tq t (cf n c)
theorem Pn_dec {n f s a b : Nat} (hs : s < 4) (ha : a < n) (hb : b < n) : cf n (Pn n f s a b) = f ∧ ah n s (ci n (Pn n f s a b)) (cj n (Pn n f s a b)) = a ∧ lf n s (ci n (Pn n f s a b)) (cj n (Pn n f s a b)) = b := by
  have h := at_lt (s := s) ha hb
  obtain ⟨h1, h2, h3⟩ := nm_dec (f := f) h.1 h.2
  unfold Pn
  rw [h1, h2, h3]
  exact ⟨rfl, ah_at hs ha hb⟩
theorem Pn_lt {n f s a b : Nat} (hf : f < 6) (ha : a < n) (hb : b < n) : Pn n f s a b < 6 * n * n := nm_lt hf (at_lt ha hb).1 (at_lt ha hb).2
theorem Pn_ex {n c s : Nat} (hn : 1 ≤ n) (hc : c < 6 * n * n) (hs : s < 4) : ∃ f a b, f < 6 ∧ a < n ∧ b < n ∧ c = Pn n f s a b := by
  obtain ⟨h1, h2, h3, h4⟩ := dec_lt hn hc
  refine ⟨cf n c, ah n s (ci n c) (cj n c), lf n s (ci n c) (cj n c), h1, (ah_lt h2 h3).1, (ah_lt h2 h3).2, ?_⟩
  unfold Pn
  rw [(at_ah hs h2 h3).1, (at_ah hs h2 h3).2, h4]
theorem Pn_inj {n f s a b f' a' b' : Nat} (hs : s < 4) (ha : a < n) (hb : b < n) (ha' : a' < n) (hb' : b' < n) (h : Pn n f s a b = Pn n f' s a' b') : f = f' ∧ a = a' ∧ b = b' := by
  obtain ⟨h1, h2, h3⟩ := Pn_dec (f := f) hs ha hb
  obtain ⟨h4, h5, h6⟩ := Pn_dec (f := f') hs ha' hb'
  rw [h] at h1 h2 h3
  exact ⟨h1.symm.trans h4, h2.symm.trans h5, h3.symm.trans h6⟩
theorem bs_Pn {n f s a b : Nat} (hs : s < 4) (ha : a < n) (hb : b < n) :
    bsC n (Pn n f s a b) s = (if a + 1 < n then Pn n f s (a + 1) b else Pn n (nf f s) (ns f s) 0 b) ∧ bsS n (Pn n f s a b) s = (if a + 1 < n then (s + 2) % 4 else (ns f s + 2) % 4) := by
  obtain ⟨h1, h2, h3⟩ := Pn_dec (f := f) hs ha hb
  unfold bsC bsS
  rw [h1, h2, h3]
  exact ⟨rfl, rfl⟩
theorem at_turn {n s q a b : Nat} (hs : s < 4) (hq : q < 4) (ha : a < n) (hb : b < n) :
    atI n q (atI n s a b) (atJ n s a b) = atI n ((s + q) % 4) a b ∧ atJ n q (atI n s a b) (atJ n s a b) = atJ n ((s + q) % 4) a b := by
  rcases four hs with rfl | rfl | rfl | rfl <;> rcases four hq with rfl | rfl | rfl | rfl <;> simp only [atI, atJ, Nat.reduceAdd, Nat.reduceMod, and_self, and_true, true_and] <;> omega
theorem tn_Pn {n t f s a b : Nat} (ht : t < 24) (hf : f < 6) (hs : s < 4) (ha : a < n) (hb : b < n) :
    tnC n t (Pn n f s a b) = Pn n (tf t f) ((s + tq t f) % 4) a b ∧ tnS n t (Pn n f s a b) = tq t f := by
  have h := at_lt (s := s) ha hb
  obtain ⟨h1, h2, h3⟩ := nm_dec (f := f) h.1 h.2
  have hq := (tf_lt t ht f hf).2
  unfold tnC tnS Pn
  rw [h1, h2, h3, (at_turn hs hq ha hb).1, (at_turn hs hq ha hb).2]
  exact ⟨rfl, rfl⟩
end Go.Proofs.YtebnjbljabjgaaaDoor.Cu

namespace Go.Proofs.YtebnjbljabjgaaaDoor
open Tf Ieee Cu
/-- the opposite, in the form in which floats are answered -/
def cn (x : Nat) : Nat := canonB (negB x)
theorem cn_lt {x : Nat} (h : x < 18446744073709551616) : cn x < 18446744073709551616 := canon_lt (negB_lt' h)
theorem canon_cases {x : Nat} (_ : x < 18446744073709551616) : (isN x = true ∧ canonB x = quiet) ∨ (mg x = 0 ∧ canonB x = 0) ∨ (isN x = false ∧ mg x ≠ 0 ∧ canonB x = x) := by
  unfold canonB
  cases h : isN x
  · by_cases c : mg x = 0
    · exact .inr (.inl ⟨c, by simp [c]⟩)
    · exact .inr (.inr ⟨rfl, c, by simp [c]⟩)
  · exact .inl ⟨rfl, by simp⟩
theorem cn_canon {x : Nat} (hx : x < 18446744073709551616) : cn (canonB x) = cn x := by
  have h1 := negB_isN hx
  have h2 := negB_mg hx
  rcases canon_cases hx with ⟨h, e⟩ | ⟨h, e⟩ | ⟨h, k, e⟩
  · rw [e]; unfold cn canonB; rw [h1, h, if_pos rfl]; decide
  · rw [e]; unfold cn
    have : canonB (negB x) = 0 := by
      rcases canon_cases (negB_lt' hx) with ⟨a, b⟩ | ⟨a, b⟩ | ⟨a, a', b⟩
      · rw [h1] at a; unfold isN at a; rw [h] at a; simp at a
      · exact b
      · rw [h2] at a'; exact absurd h a'
    rw [this]; decide
  · rw [e]
theorem mgc {x : Nat} (hx : x < 18446744073709551616) (h : isN x = false) : mg (canonB x) = mg x ∧ sv (canonB x) = sv x := by
  rcases canon_cases hx with ⟨a, e⟩ | ⟨a, e⟩ | ⟨a, k, e⟩
  · rw [h] at a; cases a
  · rw [e]
    refine ⟨by rw [a]; decide, ?_⟩
    unfold sv
    rw [a]
    have h0 : mg 0 = 0 := by decide
    have h1 : mv 0 = 0 := by decide
    rw [h0, h1]; cases ng x <;> cases ng 0 <;> rfl
  · rw [e]; exact ⟨rfl, rfl⟩
theorem inf_canon {x : Nat} (hx : x < 18446744073709551616) (h : mg x = 9218868437227405312) : canonB x = x := by
  rcases canon_cases hx with ⟨a, e⟩ | ⟨a, e⟩ | ⟨a, k, e⟩
  · unfold isN at a; rw [h] at a; simp at a
  · omega
  · exact e
theorem isN_canon {x : Nat} (h : isN x = true) : isN (canonB x) = true := by unfold canonB; rw [h, if_pos rfl]; decide
theorem addB_canon {a b : Nat} (ha : a < 18446744073709551616) (hb : b < 18446744073709551616) : addB (canonB a) b = addB a b := by
  rcases three a with h | h | h
  · have hN : isN a = false := by unfold isN; rw [decide_eq_false (by omega)]
    obtain ⟨m, s⟩ := mgc ha hN
    rcases three b with k | k | k
    · rw [addB_fin a b ha hb h k, addB_fin _ b (canon_lt ha) hb (by rw [m]; exact h) k, s]
    · rw [addB_some (add_fi a b hb h k), addB_some (add_fi _ b hb (by rw [m]; exact h) k)]
    · rw [addB_none (add_nan a b (.inr k)), addB_none (add_nan _ b (.inr k))]
  · rw [inf_canon ha h]
  · rw [addB_none (add_nan a b (.inl h)), addB_none (add_nan _ b (.inl (isN_canon h)))]
theorem sbB_canon {a b : Nat} (ha : a < 18446744073709551616) (hb : b < 18446744073709551616) : sbB (canonB a) (canonB b) = sbB a b := by
  unfold sbB
  rw [addB_canon ha (negB_lt' (canon_lt hb)), addB_comm _ _ ha (negB_lt' (canon_lt hb)), ← addB_canon (negB_lt' (canon_lt hb)) ha]
  have e : canonB (negB (canonB b)) = canonB (negB b) := cn_canon hb
  rw [e, addB_canon (negB_lt' hb) ha, addB_comm _ _ (negB_lt' hb) ha]
theorem sbB_cn {a b : Nat} (ha : a < 18446744073709551616) (hb : b < 18446744073709551616) : sbB (cn a) (cn b) = cn (sbB a b) := by
  unfold cn; rw [sbB_canon (negB_lt' ha) (negB_lt' hb), sbB_negneg ha hb]
theorem sbB_sw {a b : Nat} (ha : a < 18446744073709551616) (hb : b < 18446744073709551616) : sbB b a = cn (sbB a b) := sbB_anti ha hb
theorem nearest_not (s : Bool) (m : Nat) (p : Int) : double.nearest (!s) m p = negB (double.nearest s m p) := by
  have hw : ∀ (s : Bool) r, r < 9223372036854775808 → double.word (!s) r = negB (double.word s r) := by
    intro s r hr
    rw [d_word, d_word]
    cases s
    · simp only [Bool.not_false, if_true, Bool.false_eq_true, if_false]
      unfold negB; rw [ng_of_lt hr]; simp; omega
    · simp only [Bool.not_true, if_true, Bool.false_eq_true, if_false]
      unfold negB; rw [ng_of_ge (by omega)]; simp
  unfold Format.nearest
  by_cases c : m = 0
  · rw [if_pos c, if_pos c]; exact hw s 0 (by omega)
  · rw [if_neg c, if_neg c]
    have hm : ∀ x, min x double.infRung < 9223372036854775808 := fun x => by
      have := Nat.min_le_right x double.infRung
      rw [d_inf] at this ⊢; omega
    exact hw s _ (hm _)
theorem write_opp (d : Datum) (h : ∀ s t, d ≠ .nan s t) : double.write d.opposite = negB (double.write d) := by
  cases d with
  | number s m i => exact nearest_not s m i
  | infinity s => cases s <;> decide +kernel
  | nan s t => exact absurd rfl (h s t)
theorem mul_opp (d e : Datum) : d.opposite.product e = (d.product e).map Datum.opposite ∧ (∀ s t, d.product e ≠ some (.nan s t)) := by
  cases d <;> cases e <;> simp [Datum.opposite, Datum.product] <;> (try split) <;> simp [Datum.opposite]
theorem div_opp (p : Nat) (d e : Datum) : d.opposite.quotient p e = (d.quotient p e).map Datum.opposite ∧ (∀ s t, d.quotient p e ≠ some (.nan s t)) := by
  cases d <;> cases e <;> simp [Datum.opposite, Datum.quotient] <;> (try split) <;> (try split) <;> simp [Datum.opposite]
theorem map_opp {o : Option Datum} (h : ∀ s t, o ≠ some (.nan s t)) : (o.map Datum.opposite).map double.write = (o.map double.write).map negB := by
  cases o with
  | none => rfl
  | some d => simp only [Option.map_some]; rw [write_opp d (fun s t e => h s t (by rw [e]))]
theorem div_lt64 {a b r : Nat} (h : double.div a b = some r) : r < 18446744073709551616 := by
  have hr : ∃ d, double.write d = r := by
    have h' : ((double.read a).quotient 54 (double.read b)).map double.write = some r := h
    rw [Option.map_eq_some_iff] at h'
    obtain ⟨d, _, e⟩ := h'
    exact ⟨d, e⟩
  obtain ⟨d, e⟩ := hr
  have hw : ∀ (s : Bool) q, q < 9223372036854775808 → double.word s q < 18446744073709551616 := by
    intro s q hq; rw [d_word]; split <;> omega
  have hb : double.binade = 4503599627370496 := d_bin
  have hi : double.infRung = 9218868437227405312 := d_inf
  rw [← e]
  cases d with
  | number s m i =>
    unfold Format.write Format.nearest
    dsimp only
    split
    · exact hw _ _ (by omega)
    · exact hw _ _ (Nat.lt_of_le_of_lt (Nat.min_le_right _ _) (by rw [hi]; omega))
  | infinity s => exact hw _ _ (by rw [hi]; omega)
  | nan s t =>
    refine hw _ _ ?_
    have := Nat.mod_lt t (show 0 < double.binade by rw [hb]; omega)
    rw [hi]; rw [hb] at this ⊢; omega
theorem dvB_cn {a b : Nat} (ha : a < 18446744073709551616) : dvB (negB a) b = cn (dvB a b) := by
  have key : double.div (negB a) b = (double.div a b).map negB := by
    show ((double.read (negB a)).quotient 54 (double.read b)).map double.write = (((double.read a).quotient 54 (double.read b)).map double.write).map negB
    rw [read_neg a ha, (div_opp 54 _ _).1]
    exact map_opp (div_opp 54 _ _).2
  cases h : double.div a b with
  | none => rw [h] at key; rw [dvB_none h, dvB_none key]; decide
  | some r => rw [h] at key; rw [dvB_some h, dvB_some key, cn_canon (div_lt64 h)]; rfl
theorem dvB_z (b : Nat) (h1 : mg b ≠ 0) (h2 : mg b < 9218868437227405312) (z : Nat) (hz : mg z = 0) : dvB z b = 0 := by
  obtain ⟨m, a, e, k⟩ := read_fin double b (by rw [rg_d, d_inf]; exact h2)
  have hm : m ≠ 0 := by
    intro h0
    rw [h0, Nat.zero_mul, rg_d] at k
    have k2 : mv (mg b) = 0 := k.symm
    refine h1 ?_
    unfold mv mag at k2
    split at k2
    · exact k2
    · exact absurd k2 (Nat.mul_ne_zero (by have := Nat.two_pow_pos 52; omega) (by have := Nat.two_pow_pos (mg b / 2 ^ 52 - 1); omega))
  have hd : ∃ s p, double.div z b = some (double.nearest s 0 p) := by
    have hq : ∃ s p, (double.read z).quotient 54 (double.read b) = some (.number s 0 p) := by
      rw [e, read_zero hz]
      unfold Datum.quotient
      dsimp only
      rw [if_neg hm]
      simp
    obtain ⟨s, p, hq⟩ := hq
    refine ⟨s, p, ?_⟩
    show ((double.read z).quotient 54 (double.read b)).map double.write = _
    rw [hq]; rfl
  obtain ⟨s, p, e⟩ := hd
  rw [dvB_some e]
  unfold Format.nearest
  rw [if_pos rfl]
  cases s <;> decide +kernel
theorem mul_key {a b : Nat} (ha : a < 18446744073709551616) : double.mul (negB a) b = (double.mul a b).map negB := by
  show ((double.read (negB a)).product (double.read b)).map double.write = (((double.read a).product (double.read b)).map double.write).map negB
  rw [read_neg a ha, (mul_opp _ _).1]
  exact map_opp (mul_opp _ _).2
theorem mlB_neg {a b : Nat} (ha : a < 18446744073709551616) (_ : b < 18446744073709551616) : canonB (mlB (negB a) b) = cn (mlB a b) := by
  have key := mul_key (b := b) ha
  cases h : double.mul a b with
  | none => rw [h] at key; rw [mlB_none h, mlB_none key]; decide
  | some r => rw [h] at key; rw [mlB_some h, mlB_some key]; rfl
/-- canonical factors -/
theorem mlB_canon {a b : Nat} (ha : a < 18446744073709551616) (hb : b < 18446744073709551616) : canonB (mlB (canonB a) b) = canonB (mlB a b) := by
  rcases canon_cases ha with ⟨h, e⟩ | ⟨h, e⟩ | ⟨h, k, e⟩
  · rw [e, mlB_none (mul_nan a b (.inl h)), mlB_none (mul_nan quiet b (.inl (by decide)))]
  · rw [e]
    cases hn : ng a
    · have : a = 0 := by have := lt_of_ng hn; rw [mg_of_lt this] at h; exact h
      rw [this]
    · have h2 : a = negB 0 := by
        have := ge_of_ng hn; unfold mg at h; show a = (if ng 0 then _ else _); rw [show ng 0 = false by decide]; simp; omega
      rw [h2, mlB_neg (by omega) hb]
      -- a nought times b, both ways
      have hz : ∀ r, double.mul 0 b = some r → mg r = 0 := by
        intro r hr
        rcases three b with k | k | k
        · rw [mul_d 0 b (by omega) hb (by decide) k] at hr
          have h0 : mv (mg 0) = 0 := by decide
          rw [h0, Nat.zero_mul] at hr
          have h1 : min (rung 52 1074 0) 9218868437227405312 = 0 := by decide +kernel
          rw [h1] at hr
          cases hr
          cases (ng 0 ^^ ng b) <;> decide
        · rw [mul_fi 0 b (by omega) hb (by decide) k, if_pos (by decide)] at hr; cases hr
        · rw [mul_nan 0 b (.inr k)] at hr; cases hr
      cases hm : double.mul 0 b with
      | none => rw [mlB_none hm]; decide
      | some r =>
        rw [mlB_some hm]
        have hr := mul_fact hm (by omega) hb
        have h0 := hz r hm
        rcases canon_cases hr.1 with ⟨a', b'⟩ | ⟨a', b'⟩ | ⟨a', k', b'⟩
        · rw [hr.2] at a'; cases a'
        · rw [b', ← cn_canon hr.1, b']; decide
        · exact absurd h0 k'
  · rw [e]
theorem mlB_cn {a b : Nat} (ha : a < 18446744073709551616) (hb : b < 18446744073709551616) : canonB (mlB (cn a) b) = cn (mlB a b) := by
  unfold cn; rw [mlB_canon (negB_lt' ha) hb, mlB_neg ha hb]; rfl
theorem lnB_cn1 {x y z : Nat} (hx : x < 18446744073709551616) : lnB (cn x) y z = lnB x y z := lnB_cn hx
theorem lnB_cn2 {x y z : Nat} (hx : x < 18446744073709551616) (hy : y < 18446744073709551616) : lnB x (cn y) z = lnB x y z := by
  rw [lnB_12 hx (cn_lt hy), lnB_cn1 hy, lnB_12 hy hx]
theorem lnB_cn3 {x y z : Nat} (hx : x < 18446744073709551616) (hy : y < 18446744073709551616) (hz : z < 18446744073709551616) : lnB x y (cn z) = lnB x y z := by
  rw [lnB_23 hx hy (cn_lt hz), lnB_cn2 hx hz, lnB_23 hx hz hy]
/-- whole numbers, and their quotients, as floats -/
def fB (k : Int) : Nat := rn false (k * one)
def qo (n : Nat) (k : Int) : Nat := dvB (fB k) (fB n)
theorem fB_lt (k : Int) : fB k < 18446744073709551616 := rn_lt _ _
theorem dvB_lt (a b : Nat) : dvB a b < 18446744073709551616 := by
  unfold dvB
  cases h : double.div a b with
  | none => decide
  | some r => exact canon_lt (div_lt64 h)
theorem qo_lt (n : Nat) (k : Int) : qo n k < 18446744073709551616 := dvB_lt _ _
theorem fB_neg (k : Int) : fB (-k) = cn (fB k) := by unfold fB cn; rw [rn_negv, Int.neg_mul]
theorem fB_norm : ∀ n : Nat, n < 33 → 1 ≤ n → mg (fB n) ≠ 0 ∧ mg (fB n) < 9218868437227405312 := by decide +kernel
theorem qo_neg {n : Nat} (h1 : 1 ≤ n) (h2 : n ≤ 32) (k : Int) : qo n (-k) = cn (qo n k) := by
  obtain ⟨b1, b2⟩ := fB_norm n (by omega) h1
  unfold qo
  rw [fB_neg]
  have hx := fB_lt k
  unfold cn
  rcases canon_cases (negB_lt' hx) with ⟨h, e⟩ | ⟨h, e⟩ | ⟨h, k', e⟩
  · rw [negB_isN hx] at h
    have : isN (fB k) = false := isN_rn _ _
    rw [this] at h; cases h
  · rw [e, dvB_z _ b1 b2 0 (by decide), dvB_z _ b1 b2 (fB k) (by rw [← negB_mg hx]; exact h)]; decide
  · rw [e, dvB_cn hx]; rfl
theorem qo_one : ∀ n : Nat, n < 33 → 1 ≤ n → qo n n = 4607182418800017408 := by decide +kernel
/-- a point: its length ahead of Unit, and its three parts -/
def pL (n : Nat) (v : P3) : Nat := lnB (qo n v.1) (qo n v.2.1) (qo n v.2.2)
def px (n : Nat) (v : P3) : Nat := unB (pL n v) (qo n v.1)
def py (n : Nat) (v : P3) : Nat := unB (pL n v) (qo n v.2.1)
def pz (n : Nat) (v : P3) : Nat := unB (pL n v) (qo n v.2.2)
theorem lv_fin {l : Nat} (hl : l < 18446744073709551616) (hn : ng l = false) (h : lvB l = true) : mg l ≠ 0 ∧ mg l < 9218868437227405312 := by
  rw [lv_class hl hn] at h
  unfold classB at h
  refine ⟨fun c => ?_, ?_⟩
  · rw [if_pos c] at h; revert h; decide
  · rcases Nat.lt_or_ge (mg l) 9218868437227405312 with k | k
    · exact k
    · rw [if_neg (by omega), if_neg (by omega), if_neg (by omega)] at h
      split at h <;> exact absurd h (by decide)
theorem dvB_nan {y l : Nat} (hy : isN y = true) : dvB y l = quiet := by
  refine dvB_none ?_
  rw [isN_true] at hy
  have ei := d_inf
  show ((double.read y).quotient 54 (double.read l)).map double.write = none
  rw [read_nan double y d_he (by rw [rg_d]; omega)]
  cases double.read l <;> rfl
theorem unB_cn (l x : Nat) (hl : l < 18446744073709551616) (hn : ng l = false) (hx : x < 18446744073709551616) : unB l (cn x) = cn (unB l x) := by
  unfold unB
  by_cases c : lvB l = true
  · rw [if_pos c, if_pos c]
    unfold cn
    rcases canon_cases (negB_lt' hx) with ⟨h, e⟩ | ⟨h, e⟩ | ⟨h, k', e⟩
    · have hxn : isN x = true := by rw [← negB_isN hx]; exact h
      rw [e, dvB_nan (y := quiet) (by decide), dvB_nan hxn]; decide
    · have hz : mg x = 0 := by rw [← negB_mg hx]; exact h
      have hl2 := lv_fin hl hn c
      rw [e, dvB_z l hl2.1 hl2.2 0 (by decide), dvB_z l hl2.1 hl2.2 x hz]; decide
    · rw [e, dvB_cn hx]; rfl
  · rw [if_neg c, if_neg c]; decide
theorem pL_lt (n : Nat) (v : P3) : pL n v < 18446744073709551616 := rtB_lt _
theorem pL_ng (n : Nat) (v : P3) : ng (pL n v) = false := rtB_ng _
theorem px_lt (n : Nat) (v : P3) : px n v < 18446744073709551616 := unB_lt _ _
theorem py_lt (n : Nat) (v : P3) : py n v < 18446744073709551616 := unB_lt _ _
theorem pz_lt (n : Nat) (v : P3) : pz n v < 18446744073709551616 := unB_lt _ _
/-- three simple steps -/
def op8 (k : Nat) (v : P3) : P3 := match k with | 0 => (v.2.1, v.1, v.2.2) | 1 => (v.1, v.2.2, v.2.1) | _ => (-v.1, v.2.1, v.2.2)
theorem op_cases (P : Nat → Prop) (h0 : P 0) (h1 : P 1) (h2 : ∀ k, P (k + 2)) : ∀ k, P k := by
  intro k
  match k with
  | 0 => exact h0
  | 1 => exact h1
  | k + 2 => exact h2 k
theorem pL_op {n : Nat} (h1 : 1 ≤ n) (h2 : n ≤ 32) (v : P3) : ∀ k, pL n (op8 k v) = pL n v := by
  refine op_cases _ ?_ ?_ (fun k => ?_)
  · exact lnB_12 (qo_lt _ _) (qo_lt _ _)
  · exact lnB_23 (qo_lt _ _) (qo_lt _ _) (qo_lt _ _)
  · show lnB (qo n (-v.1)) _ _ = _
    rw [qo_neg h1 h2, lnB_cn1 (qo_lt _ _)]; rfl
theorem p_op0 {n : Nat} (h1 : 1 ≤ n) (h2 : n ≤ 32) (v : P3) : px n (op8 0 v) = py n v ∧ py n (op8 0 v) = px n v ∧ pz n (op8 0 v) = pz n v := by
  have h := pL_op h1 h2 v 0
  unfold px py pz; rw [h]; exact ⟨rfl, rfl, rfl⟩
theorem p_op1 {n : Nat} (h1 : 1 ≤ n) (h2 : n ≤ 32) (v : P3) : px n (op8 1 v) = px n v ∧ py n (op8 1 v) = pz n v ∧ pz n (op8 1 v) = py n v := by
  have h := pL_op h1 h2 v 1
  unfold px py pz; rw [h]; exact ⟨rfl, rfl, rfl⟩
theorem p_op2 {n : Nat} (h1 : 1 ≤ n) (h2 : n ≤ 32) (v : P3) (k : Nat) : px n (op8 (k + 2) v) = cn (px n v) ∧ py n (op8 (k + 2) v) = py n v ∧ pz n (op8 (k + 2) v) = pz n v := by
  have h := pL_op h1 h2 v (k + 2)
  unfold px py pz
  rw [h]
  refine ⟨?_, rfl, rfl⟩
  show unB _ (qo n (-v.1)) = _
  rw [qo_neg h1 h2, unB_cn _ _ (pL_lt _ _) (pL_ng _ _) (qo_lt _ _)]
/-- how far two points are apart -/
def gp (n : Nat) (u v : P3) : Nat := lnB (sbB (px n u) (px n v)) (sbB (py n u) (py n v)) (sbB (pz n u) (pz n v))
theorem gp_op {n : Nat} (h1 : 1 ≤ n) (h2 : n ≤ 32) (u v : P3) : ∀ k, gp n (op8 k u) (op8 k v) = gp n u v := by
  have bx := sbB_lt (px_lt n u) (px_lt n v)
  have hy := sbB_lt (py_lt n u) (py_lt n v)
  have hz := sbB_lt (pz_lt n u) (pz_lt n v)
  refine op_cases _ ?_ ?_ (fun k => ?_)
  · obtain ⟨a, b, c⟩ := p_op0 h1 h2 u
    obtain ⟨d, e, f⟩ := p_op0 h1 h2 v
    unfold gp; rw [a, b, c, d, e, f]; exact lnB_12 hy bx
  · obtain ⟨a, b, c⟩ := p_op1 h1 h2 u
    obtain ⟨d, e, f⟩ := p_op1 h1 h2 v
    unfold gp; rw [a, b, c, d, e, f]; exact lnB_23 bx hz hy
  · obtain ⟨a, b, c⟩ := p_op2 h1 h2 u k
    obtain ⟨d, e, f⟩ := p_op2 h1 h2 v k
    unfold gp; rw [a, b, c, d, e, f, sbB_cn (px_lt _ _) (px_lt _ _), lnB_cn1 bx]
theorem gp_comm (n : Nat) (u v : P3) : gp n v u = gp n u v := by
  unfold gp
  rw [sbB_sw (px_lt n u) (px_lt n v), sbB_sw (py_lt n u) (py_lt n v), sbB_sw (pz_lt n u) (pz_lt n v)]
  have bx := sbB_lt (px_lt n u) (px_lt n v)
  have hy := sbB_lt (py_lt n u) (py_lt n v)
  have hz := sbB_lt (pz_lt n u) (pz_lt n v)
  rw [lnB_cn1 bx, lnB_cn2 bx hy, lnB_cn3 bx hy hz]
/-- the length of a cross product -/
def cl (x y z u v t : Nat) : Nat := lnB (sbB (mlB y t) (mlB z v)) (sbB (mlB z u) (mlB x t)) (sbB (mlB x v) (mlB y u))
theorem cl_12 {x y z u v t : Nat} (hx : x < 18446744073709551616) (hy : y < 18446744073709551616) (hz : z < 18446744073709551616) (hu : u < 18446744073709551616) (hv : v < 18446744073709551616) (ht : t < 18446744073709551616) : cl y x z v u t = cl x y z u v t := by
  unfold cl
  have a := sbB_lt (mlB_lt hy ht) (mlB_lt hz hv)
  have b := sbB_lt (mlB_lt hz hu) (mlB_lt hx ht)
  have c := sbB_lt (mlB_lt hx hv) (mlB_lt hy hu)
  rw [sbB_sw (mlB_lt hy ht) (mlB_lt hz hv), sbB_sw (mlB_lt hz hu) (mlB_lt hx ht), sbB_sw (mlB_lt hx hv) (mlB_lt hy hu)]
  rw [lnB_cn1 b, lnB_cn2 b a, lnB_cn3 b a c]
  exact lnB_12 b a
theorem cl_23 {x y z u v t : Nat} (hx : x < 18446744073709551616) (hy : y < 18446744073709551616) (hz : z < 18446744073709551616) (hu : u < 18446744073709551616) (hv : v < 18446744073709551616) (ht : t < 18446744073709551616) : cl x z y u t v = cl x y z u v t := by
  unfold cl
  have a := sbB_lt (mlB_lt hy ht) (mlB_lt hz hv)
  have b := sbB_lt (mlB_lt hz hu) (mlB_lt hx ht)
  have c := sbB_lt (mlB_lt hx hv) (mlB_lt hy hu)
  rw [sbB_sw (mlB_lt hy ht) (mlB_lt hz hv), sbB_sw (mlB_lt hz hu) (mlB_lt hx ht), sbB_sw (mlB_lt hx hv) (mlB_lt hy hu)]
  rw [lnB_cn1 a, lnB_cn2 a c, lnB_cn3 a c b]
  exact lnB_23 a c b
theorem sb_one {a b c d : Nat} (ha : a < 18446744073709551616) (hb : b < 18446744073709551616) (hc : c < 18446744073709551616) (hd : d < 18446744073709551616) : sbB (mlB (cn a) b) (mlB (cn c) d) = cn (sbB (mlB a b) (mlB c d)) := by
  rw [← sbB_canon (mlB_lt (cn_lt ha) hb) (mlB_lt (cn_lt hc) hd), mlB_cn ha hb, mlB_cn hc hd, sbB_cn (mlB_lt ha hb) (mlB_lt hc hd)]
theorem sb_mix {a b c d : Nat} (ha : a < 18446744073709551616) (hb : b < 18446744073709551616) (hc : c < 18446744073709551616) (hd : d < 18446744073709551616) : sbB (mlB a (cn b)) (mlB (cn c) d) = cn (sbB (mlB a b) (mlB c d)) := by
  rw [mlB_comm a, sb_one hb ha hc hd, mlB_comm b]
theorem sb_two {a b c d : Nat} (ha : a < 18446744073709551616) (hb : b < 18446744073709551616) (hc : c < 18446744073709551616) (hd : d < 18446744073709551616) : sbB (mlB a (cn b)) (mlB c (cn d)) = cn (sbB (mlB a b) (mlB c d)) := by
  rw [mlB_comm c, sb_mix ha hb hd hc, mlB_comm d]
theorem cl_n1 {x y z u v t : Nat} (hx : x < 18446744073709551616) (hy : y < 18446744073709551616) (hz : z < 18446744073709551616) (hu : u < 18446744073709551616) (hv : v < 18446744073709551616) (ht : t < 18446744073709551616) : cl (cn x) y z (cn u) v t = cl x y z u v t := by
  unfold cl
  have a := sbB_lt (mlB_lt hy ht) (mlB_lt hz hv)
  have b := sbB_lt (mlB_lt hz hu) (mlB_lt hx ht)
  have c := sbB_lt (mlB_lt hx hv) (mlB_lt hy hu)
  rw [sb_mix hz hu hx ht, mlB_comm (cn x) v, mlB_comm y (cn u), sb_mix hv hx hu hy, mlB_comm v x, mlB_comm u y, lnB_cn2 a b, lnB_cn3 a b c]
/-- the other one, and the first one turned round -/
theorem cl_rot {x y z u v t : Nat} (hx : x < 18446744073709551616) (hy : y < 18446744073709551616) (hz : z < 18446744073709551616) (hu : u < 18446744073709551616) (hv : v < 18446744073709551616) (ht : t < 18446744073709551616) : cl u v t (cn x) (cn y) (cn z) = cl x y z u v t := by
  unfold cl
  have a := sbB_lt (mlB_lt hy ht) (mlB_lt hz hv)
  have b := sbB_lt (mlB_lt hz hu) (mlB_lt hx ht)
  have c := sbB_lt (mlB_lt hx hv) (mlB_lt hy hu)
  rw [sb_two hv hz ht hy, sb_two ht hx hu hz, sb_two hu hy hv hx, mlB_comm v z, mlB_comm t y, mlB_comm t x, mlB_comm u z, mlB_comm u y, mlB_comm v x]
  rw [sbB_sw (mlB_lt hy ht) (mlB_lt hz hv), sbB_sw (mlB_lt hz hu) (mlB_lt hx ht), sbB_sw (mlB_lt hx hv) (mlB_lt hy hu)]
  rw [lnB_cn1 (cn_lt a), lnB_cn1 a, lnB_cn2 a (cn_lt b), lnB_cn2 a b, lnB_cn3 a b (cn_lt c), lnB_cn3 a b c]
/-- twice a cell's area, of its four corners -/
def ar (n : Nat) (p q r s : P3) : Nat := cl (sbB (px n r) (px n p)) (sbB (py n r) (py n p)) (sbB (pz n r) (pz n p)) (sbB (px n s) (px n q)) (sbB (py n s) (py n q)) (sbB (pz n s) (pz n q))
theorem ar_op {n : Nat} (h1 : 1 ≤ n) (h2 : n ≤ 32) (p q r s : P3) : ∀ k, ar n (op8 k p) (op8 k q) (op8 k r) (op8 k s) = ar n p q r s := by
  have bx := sbB_lt (px_lt n r) (px_lt n p)
  have hy := sbB_lt (py_lt n r) (py_lt n p)
  have hz := sbB_lt (pz_lt n r) (pz_lt n p)
  have hu := sbB_lt (px_lt n s) (px_lt n q)
  have hv := sbB_lt (py_lt n s) (py_lt n q)
  have ht := sbB_lt (pz_lt n s) (pz_lt n q)
  refine op_cases _ ?_ ?_ (fun k => ?_)
  · obtain ⟨a1, a2, a3⟩ := p_op0 h1 h2 p
    obtain ⟨b1, b2, b3⟩ := p_op0 h1 h2 q
    obtain ⟨c1, c2, c3⟩ := p_op0 h1 h2 r
    obtain ⟨d1, d2, d3⟩ := p_op0 h1 h2 s
    unfold ar; rw [a1, a2, a3, b1, b2, b3, c1, c2, c3, d1, d2, d3]; exact cl_12 bx hy hz hu hv ht
  · obtain ⟨a1, a2, a3⟩ := p_op1 h1 h2 p
    obtain ⟨b1, b2, b3⟩ := p_op1 h1 h2 q
    obtain ⟨c1, c2, c3⟩ := p_op1 h1 h2 r
    obtain ⟨d1, d2, d3⟩ := p_op1 h1 h2 s
    unfold ar; rw [a1, a2, a3, b1, b2, b3, c1, c2, c3, d1, d2, d3]; exact cl_23 bx hy hz hu hv ht
  · obtain ⟨a1, a2, a3⟩ := p_op2 h1 h2 p k
    obtain ⟨b1, b2, b3⟩ := p_op2 h1 h2 q k
    obtain ⟨c1, c2, c3⟩ := p_op2 h1 h2 r k
    obtain ⟨d1, d2, d3⟩ := p_op2 h1 h2 s k
    unfold ar; rw [a1, a2, a3, b1, b2, b3, c1, c2, c3, d1, d2, d3, sbB_cn (px_lt _ _) (px_lt _ _), sbB_cn (px_lt _ _) (px_lt _ _)]; exact cl_n1 bx hy hz hu hv ht
theorem ar_cyc (n : Nat) (p q r s : P3) : ar n q r s p = ar n p q r s := by
  have bx := sbB_lt (px_lt n r) (px_lt n p)
  have hy := sbB_lt (py_lt n r) (py_lt n p)
  have hz := sbB_lt (pz_lt n r) (pz_lt n p)
  have hu := sbB_lt (px_lt n s) (px_lt n q)
  have hv := sbB_lt (py_lt n s) (py_lt n q)
  have ht := sbB_lt (pz_lt n s) (pz_lt n q)
  unfold ar
  rw [sbB_sw (px_lt n r) (px_lt n p), sbB_sw (py_lt n r) (py_lt n p), sbB_sw (pz_lt n r) (pz_lt n p)]
  exact cl_rot bx hy hz hu hv ht
/-- each turn is some such steps -/
def rops (t : Nat) : List Nat := [[], [0, 2, 1, 0, 2, 0, 1, 0], [0, 2, 0, 1], [1, 0, 2, 0], [1, 0, 2, 0, 1, 0], [2, 0], [0, 1], [2, 1, 0, 2, 1, 0], [2, 1, 0, 2, 0, 1], [2, 0, 2, 0], [2, 1], [2, 0, 2, 1, 0, 2, 1, 0], [0, 2], [2, 0, 2, 1, 0, 2, 0, 1], [2, 0, 2, 1], [0, 2, 1, 0, 2, 0], [1, 0], [2, 0, 1, 0], [2, 0, 2, 0, 1, 0], [0, 2, 1, 0], [0, 2, 1, 0, 2, 1], [1, 0, 2, 1], [2, 1, 0, 2], [2, 0, 2, 1, 0, 2]].getD t []
theorem ro_ops (t : Nat) (ht : t < 24) (v : P3) : ro t v = (rops t).foldr op8 v := by
  obtain ⟨a, b, c⟩ := v
  have hl : t = 0 ∨ t = 1 ∨ t = 2 ∨ t = 3 ∨ t = 4 ∨ t = 5 ∨ t = 6 ∨ t = 7 ∨ t = 8 ∨ t = 9 ∨ t = 10 ∨ t = 11 ∨ t = 12 ∨ t = 13 ∨ t = 14 ∨ t = 15 ∨ t = 16 ∨ t = 17 ∨ t = 18 ∨ t = 19 ∨ t = 20 ∨ t = 21 ∨ t = 22 ∨ t = 23 := by omega
  rcases hl with rfl | rfl | rfl | rfl | rfl | rfl | rfl | rfl | rfl | rfl | rfl | rfl | rfl | rfl | rfl | rfl | rfl | rfl | rfl | rfl | rfl | rfl | rfl | rfl <;> simp [ro, rX, rY, rZ, cC, prp, cx, pl, sc, rops, op8]
theorem gp_ro {n : Nat} (h1 : 1 ≤ n) (h2 : n ≤ 32) (t : Nat) (ht : t < 24) (u v : P3) : gp n (ro t u) (ro t v) = gp n u v := by
  rw [ro_ops t ht, ro_ops t ht]
  generalize rops t = l
  induction l with
  | nil => rfl
  | cons k l ih => simp only [List.foldr_cons]; rw [gp_op h1 h2, ih]
theorem ar_ro {n : Nat} (h1 : 1 ≤ n) (h2 : n ≤ 32) (t : Nat) (ht : t < 24) (p q r s : P3) : ar n (ro t p) (ro t q) (ro t r) (ro t s) = ar n p q r s := by
  rw [ro_ops t ht, ro_ops t ht, ro_ops t ht, ro_ops t ht]
  generalize rops t = l
  induction l with
  | nil => rfl
  | cons k l ih => simp only [List.foldr_cons]; rw [ar_op h1 h2, ih]
end Go.Proofs.YtebnjbljabjgaaaDoor

namespace Go.Proofs.YtebnjbljabjgaaaDoor.Cu
theorem bs_lt {n c s : Nat} (hn : 1 ≤ n) (hc : c < 6 * n * n) (hs : s < 4) : bsC n c s < 6 * n * n ∧ bsS n c s < 4 := by
  obtain ⟨f, a, b, hf, ha, hb, rfl⟩ := Pn_ex hn hc hs
  obtain ⟨f1, f2⟩ := nf_lt f hf s hs
  obtain ⟨b1, b2⟩ := bs_Pn (f := f) hs ha hb
  rw [b1, b2]
  by_cases h : a + 1 < n
  · rw [if_pos h, if_pos h]; exact ⟨Pn_lt hf h hb, by omega⟩
  · rw [if_neg h, if_neg h]; exact ⟨Pn_lt f1 (by omega) hb, by omega⟩
end Go.Proofs.YtebnjbljabjgaaaDoor.Cu

namespace Go.Proofs.YtebnjbljabjgaaaDoor
open Tf Ieee Cu
theorem turned_geo {n M c s t k : Nat} (hn : 1 ≤ n) (hM : 6 * n * n = M) (hc : c < M) (hs : s < 4) (ht : t < 24) (hk : k < M) :
    (tnC n t c < M ∧ tnS n t c < 4 ∧ bsC n c s < M ∧ bsS n c s < 4 ∧ tnS n t (bsC n c s) < 4) ∧ bsC n (tnC n t c) ((s + tnS n t c) % 4) = tnC n t (bsC n c s) ∧ bsS n (tnC n t c) ((s + tnS n t c) % 4) = (bsS n c s + tnS n t (bsC n c s)) % 4 ∧ (tnC n t k = tnC n t c ↔ k = c) ∧ tnC n 0 c = c ∧ tnS n 0 c = 0 := by
  subst hM
  obtain ⟨f, a, b, hf, ha, hb, rfl⟩ := Pn_ex hn hc hs
  obtain ⟨t1, t2⟩ := tf_lt t ht f hf
  obtain ⟨f1, f2⟩ := nf_lt f hf s hs
  obtain ⟨u1, u2⟩ := tf_lt t ht _ f1
  obtain ⟨b1, b2⟩ := bs_Pn (f := f) hs ha hb
  obtain ⟨c1, c2⟩ := tn_Pn ht hf hs ha hb
  obtain ⟨z1, z2⟩ := tf_zero f hf
  obtain ⟨d1, d2⟩ := tn_Pn (t := 0) (by omega) hf hs ha hb
  have hq : (s + tq t f) % 4 < 4 := by omega
  have hzero : tnC n 0 (Pn n f s a b) = Pn n f s a b ∧ tnS n 0 (Pn n f s a b) = 0 := by
    rw [d1, d2, z1, z2, Nat.add_zero, Nat.mod_eq_of_lt hs]; exact ⟨rfl, rfl⟩
  have hinj : tnC n t k = tnC n t (Pn n f s a b) ↔ k = Pn n f s a b := by
    obtain ⟨f', a', b', hf', ha', hb', rfl⟩ := Pn_ex hn hk hs
    obtain ⟨g1, g2⟩ := tn_Pn ht hf' hs ha' hb'
    refine ⟨fun e => ?_, fun e => by rw [e]⟩
    rw [g1, c1] at e
    have e1 := (Pn_dec (f := tf t f') (show (s + tq t f') % 4 < 4 by omega) ha' hb').1
    have e2 := (Pn_dec (f := tf t f) hq ha hb).1
    rw [e, e2] at e1
    have ef := tf_inj t ht f hf f' hf' e1
    subst ef
    obtain ⟨_, h1, h2⟩ := Pn_inj hq ha' hb' ha hb e
    rw [h1, h2]
  obtain ⟨v1, v2⟩ := nf_tf t ht f hf s hs
  by_cases h : a + 1 < n
  · rw [if_pos h] at b1 b2
    obtain ⟨e1, e2⟩ := tn_Pn (t := t) (f := f) (s := s) (b := b) ht hf hs h hb
    obtain ⟨g1, g2⟩ := bs_Pn (f := tf t f) hq ha hb
    rw [if_pos h] at g1 g2
    rw [b1, b2, e1, e2, c1, c2, g1, g2]
    refine ⟨⟨Pn_lt t1 ha hb, t2, Pn_lt hf h hb, by omega, t2⟩, rfl, by omega, ?_, hzero⟩
    rw [← c1]; exact hinj
  · rw [if_neg h] at b1 b2
    have h0 : 0 < n := by omega
    obtain ⟨e1, e2⟩ := tn_Pn (t := t) ht f1 f2 h0 hb
    obtain ⟨g1, g2⟩ := bs_Pn (f := tf t f) hq ha hb
    rw [if_neg h, v1, v2] at g1
    rw [if_neg h, v2] at g2
    rw [b1, b2, e1, e2, c1, c2, g1, g2]
    refine ⟨⟨Pn_lt t1 ha hb, t2, Pn_lt f1 h0 hb, by omega, u2⟩, rfl, by omega, ?_, hzero⟩
    rw [← c1]; exact hinj

/-- a corner of a face's net -/
def cr (n f i j : Nat) : P3 := pl (sc n (cC f)) (pl (sc (2 * i - n) (cR f)) (sc (2 * j - n) (cU f)))
/-- the two corners of a side -/
def e1 (n f s i j : Nat) : P3 := match s with | 0 => cr n f (i + 1) j | 1 => cr n f i (j + 1) | 2 => cr n f i j | _ => cr n f i j
def e2 (n f s i j : Nat) : P3 := match s with | 0 => cr n f (i + 1) (j + 1) | 1 => cr n f (i + 1) (j + 1) | 2 => cr n f i (j + 1) | _ => cr n f (i + 1) j
def Ep (n f s i j : Nat) : P3 := pl (pl (md n f i j) (wy f s)) (wy f ((s + 1) % 4))
def Em (n f s i j : Nat) : P3 := pl (pl (md n f i j) (wy f s)) (sc (-1) (wy f ((s + 1) % 4)))
theorem e_cases {n f s i j : Nat} (hf : f < 6) (hs : s < 4) : (e1 n f s i j = Ep n f s i j ∧ e2 n f s i j = Em n f s i j) ∨ (e1 n f s i j = Em n f s i j ∧ e2 n f s i j = Ep n f s i j) := by
  rcases Cu.four hs with rfl | rfl | rfl | rfl
  · right
    rcases six hf with rfl | rfl | rfl | rfl | rfl | rfl <;> simp only [e1, e2, Ep, Em, cr, md, pl, sc, cC, cR, cU, wy, Nat.reduceAdd, Nat.reduceMod, Prod.mk.injEq] <;> omega
  · left
    rcases six hf with rfl | rfl | rfl | rfl | rfl | rfl <;> simp only [e1, e2, Ep, Em, cr, md, pl, sc, cC, cR, cU, wy, Nat.reduceAdd, Nat.reduceMod, Prod.mk.injEq] <;> omega
  · left
    rcases six hf with rfl | rfl | rfl | rfl | rfl | rfl <;> simp only [e1, e2, Ep, Em, cr, md, pl, sc, cC, cR, cU, wy, Nat.reduceAdd, Nat.reduceMod, Prod.mk.injEq] <;> omega
  · right
    rcases six hf with rfl | rfl | rfl | rfl | rfl | rfl <;> simp only [e1, e2, Ep, Em, cr, md, pl, sc, cC, cR, cU, wy, Nat.reduceAdd, Nat.reduceMod, Prod.mk.injEq] <;> omega
/-- of a cell by its number: its middle, the corners of a side, their gap, the gap of the middles, twice its area -/
def MD (n c : Nat) : P3 := md n (cf n c) (ci n c) (cj n c)
def C1 (n c s : Nat) : P3 := e1 n (cf n c) s (ci n c) (cj n c)
def C2 (n c s : Nat) : P3 := e2 n (cf n c) s (ci n c) (cj n c)
def EP (n c s : Nat) : P3 := Ep n (cf n c) s (ci n c) (cj n c)
def EM (n c s : Nat) : P3 := Em n (cf n c) s (ci n c) (cj n c)
def LnC (n c s : Nat) : Nat := gp n (C1 n c s) (C2 n c s)
def GpC (n c s : Nat) : Nat := gp n (MD n c) (MD n (bsC n c s))
def ArC (n c : Nat) : Nat := ar n (cr n (cf n c) (ci n c) (cj n c)) (cr n (cf n c) (ci n c + 1) (cj n c)) (cr n (cf n c) (ci n c + 1) (cj n c + 1)) (cr n (cf n c) (ci n c) (cj n c + 1))
theorem LnC_pm {n c s : Nat} (hn : 1 ≤ n) (hc : c < 6 * n * n) (hs : s < 4) : LnC n c s = gp n (EP n c s) (EM n c s) := by
  have hf := (dec_lt hn hc).1
  unfold LnC C1 C2 EP EM
  rcases e_cases (n := n) (i := ci n c) (j := cj n c) hf hs with ⟨a, b⟩ | ⟨a, b⟩
  · rw [a, b]
  · rw [a, b, gp_comm]
theorem MD_Pn {n f s a b : Nat} (hf : f < 6) (hs : s < 4) (ha : a < n) (hb : b < n) : MD n (Pn n f s a b) = ms n f s a b ∧ cf n (Pn n f s a b) = f := by
  have h := at_lt (s := s) ha hb
  obtain ⟨h1, h2, h3⟩ := nm_dec (f := f) h.1 h.2
  unfold MD Pn
  rw [h1, h2, h3, md_ms hf hs ha hb]
  exact ⟨rfl, rfl⟩
theorem EP_MD (n c s : Nat) : EP n c s = pl (pl (MD n c) (wy (cf n c) s)) (wy (cf n c) ((s + 1) % 4)) := rfl
theorem EM_MD (n c s : Nat) : EM n c s = pl (pl (MD n c) (wy (cf n c) s)) (sc (-1) (wy (cf n c) ((s + 1) % 4))) := rfl
theorem ro_pl (t : Nat) (p q : P3) : ro t (pl p q) = pl (ro t p) (ro t q) := by
  simp only [ro, pl, sc, Prod.mk.injEq]
  refine ⟨?_, ?_, ?_⟩ <;> simp only [Int.add_mul] <;> omega
theorem ro_sc (t : Nat) (k : Int) (p : P3) : ro t (sc k p) = sc k (ro t p) := by
  simp only [ro, pl, sc, Prod.mk.injEq]
  refine ⟨?_, ?_, ?_⟩ <;> simp only [Int.mul_add, Int.mul_assoc]
theorem ro_wy : ∀ t < 24, ∀ f < 6, ∀ s < 4, ro t (wy f s) = wy (tf t f) ((s + tq t f) % 4) := by decide +kernel
theorem tn_dec {n t c : Nat} (hn : 1 ≤ n) (hc : c < 6 * n * n) (ht : t < 24) : cf n (tnC n t c) = tf t (cf n c) ∧ MD n (tnC n t c) = ro t (MD n c) := by
  obtain ⟨h1, h2, h3, _⟩ := dec_lt hn hc
  obtain ⟨t1, t2⟩ := tf_lt t ht _ h1
  unfold tnC
  obtain ⟨m1, m2⟩ := MD_Pn t1 t2 h2 h3
  refine ⟨m2, ?_⟩
  rw [m1]
  unfold MD
  rw [ro_md ht h1 h2 h3, md_ms t1 t2 h2 h3]
theorem ends_turn {n t c s : Nat} (hn : 1 ≤ n) (hc : c < 6 * n * n) (hs : s < 4) (ht : t < 24) : EP n (tnC n t c) ((s + tnS n t c) % 4) = ro t (EP n c s) ∧ EM n (tnC n t c) ((s + tnS n t c) % 4) = ro t (EM n c s) := by
  have h1 := (dec_lt hn hc).1
  obtain ⟨d1, d2⟩ := tn_dec hn hc ht
  have w1 := ro_wy t ht _ h1 s hs
  have w2 := ro_wy t ht _ h1 ((s + 1) % 4) (by omega)
  rw [EP_MD, EM_MD, EP_MD, EM_MD, d1, d2]
  simp only [ro_pl, ro_sc, w1, w2]
  unfold tnS
  rw [show ((s + tq t (cf n c)) % 4 + 1) % 4 = ((s + 1) % 4 + tq t (cf n c)) % 4 by omega]
  exact ⟨rfl, rfl⟩
theorem len_turn {n t c s : Nat} (hn : 1 ≤ n) (h32 : n ≤ 32) (hc : c < 6 * n * n) (hs : s < 4) (ht : t < 24) (hc' : tnC n t c < 6 * n * n) : LnC n (tnC n t c) ((s + tnS n t c) % 4) = LnC n c s := by
  rw [LnC_pm hn hc hs, LnC_pm hn hc' (by omega), (ends_turn hn hc hs ht).1, (ends_turn hn hc hs ht).2, gp_ro hn h32 t ht]
theorem gap_turn {n t c s : Nat} (hn : 1 ≤ n) (h32 : n ≤ 32) (hc : c < 6 * n * n) (hs : s < 4) (ht : t < 24) : GpC n (tnC n t c) ((s + tnS n t c) % 4) = GpC n c s := by
  obtain ⟨h1, h2, -⟩ := turned_geo (k := c) hn rfl hc hs ht hc
  unfold GpC
  rw [h2, (tn_dec hn hc ht).2, (tn_dec hn h1.2.2.1 ht).2, gp_ro hn h32 t ht]
/-- the area, seen in another way -/
def Aw (n : Nat) (m w v : P3) : Nat := ar n (pl (pl m (sc (-1) w)) (sc (-1) v)) (pl (pl m w) (sc (-1) v)) (pl (pl m w) v) (pl (pl m (sc (-1) w)) v)
theorem Aw_rot (n : Nat) (m w v : P3) : Aw n m v (sc (-1) w) = Aw n m w v := by
  unfold Aw
  have a1 : pl (pl m (sc (-1) v)) (sc (-1) (sc (-1) w)) = pl (pl m w) (sc (-1) v) := by simp only [pl, sc, Prod.mk.injEq]; omega
  have a2 : pl (pl m v) (sc (-1) (sc (-1) w)) = pl (pl m w) v := by simp only [pl, sc, Prod.mk.injEq]; omega
  have a3 : pl (pl m v) (sc (-1) w) = pl (pl m (sc (-1) w)) v := by simp only [pl, sc, Prod.mk.injEq]; omega
  have a4 : pl (pl m (sc (-1) v)) (sc (-1) w) = pl (pl m (sc (-1) w)) (sc (-1) v) := by simp only [pl, sc, Prod.mk.injEq]; omega
  rw [a1, a2, a3, a4]
  exact ar_cyc _ _ _ _ _
theorem Aw_way (n f : Nat) (m : P3) {s : Nat} (hs : s < 4) : Aw n m (wy f s) (wy f ((s + 1) % 4)) = Aw n m (cR f) (cU f) := by
  have r2 : sc (-1) (sc (-1) (cR f)) = cR f := by simp only [sc]; ext <;> simp <;> omega
  rcases Cu.four hs with rfl | rfl | rfl | rfl
  · rfl
  · exact Aw_rot n m (cR f) (cU f)
  · exact (Aw_rot n m (cU f) (sc (-1) (cR f))).trans (Aw_rot n m (cR f) (cU f))
  · have h := Aw_rot n m (sc (-1) (cR f)) (sc (-1) (cU f))
    rw [r2] at h
    exact h.trans ((Aw_rot n m (cU f) (sc (-1) (cR f))).trans (Aw_rot n m (cR f) (cU f)))
theorem ArC_Aw {n c : Nat} (hn : 1 ≤ n) (hc : c < 6 * n * n) : ArC n c = Aw n (MD n c) (cR (cf n c)) (cU (cf n c)) := by
  have hf := (dec_lt hn hc).1
  unfold ArC Aw MD
  generalize cf n c = f at *
  generalize ci n c = i
  generalize cj n c = j
  have k1 : cr n f i j = pl (pl (md n f i j) (sc (-1) (cR f))) (sc (-1) (cU f)) := by
    rcases six hf with rfl | rfl | rfl | rfl | rfl | rfl <;> simp only [cr, md, pl, sc, cC, cR, cU, Prod.mk.injEq] <;> omega
  have k2 : cr n f (i + 1) j = pl (pl (md n f i j) (cR f)) (sc (-1) (cU f)) := by
    rcases six hf with rfl | rfl | rfl | rfl | rfl | rfl <;> simp only [cr, md, pl, sc, cC, cR, cU, Prod.mk.injEq] <;> omega
  have k3 : cr n f (i + 1) (j + 1) = pl (pl (md n f i j) (cR f)) (cU f) := by
    rcases six hf with rfl | rfl | rfl | rfl | rfl | rfl <;> simp only [cr, md, pl, sc, cC, cR, cU, Prod.mk.injEq] <;> omega
  have k4 : cr n f i (j + 1) = pl (pl (md n f i j) (sc (-1) (cR f))) (cU f) := by
    rcases six hf with rfl | rfl | rfl | rfl | rfl | rfl <;> simp only [cr, md, pl, sc, cC, cR, cU, Prod.mk.injEq] <;> omega
  rw [k1, k2, k3, k4]
theorem area_turn {n t c : Nat} (hn : 1 ≤ n) (h32 : n ≤ 32) (hc : c < 6 * n * n) (ht : t < 24) (hc' : tnC n t c < 6 * n * n) : ArC n (tnC n t c) = ArC n c := by
  have h1 := (dec_lt hn hc).1
  obtain ⟨t1, t2⟩ := tf_lt t ht _ h1
  obtain ⟨d1, d2⟩ := tn_dec hn hc ht
  obtain ⟨-, r1, r2⟩ := ro_tab t ht _ h1
  rw [ArC_Aw hn hc', ArC_Aw hn hc, d1, d2, ← Aw_way n (tf t (cf n c)) _ t2, ← r1, ← r2]
  unfold Aw
  simp only [← ro_pl, ← ro_sc]
  exact ar_ro hn h32 t ht _ _ _ _
end Go.Proofs.YtebnjbljabjgaaaDoor
