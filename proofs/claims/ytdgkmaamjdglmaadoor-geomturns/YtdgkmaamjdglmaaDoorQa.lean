/-
  Points of the sphere by plain numbers: what a turn of the cube does to them (no program).
-/
import Derived.Test.YtdgkmaamjdglmaaDoorNx
import Derived.Test.YtdgkmaamjdglmaaDoorKq
namespace Go.Proofs.YtdgkmaamjdglmaaDoor
open Tf Ieee Cu
/-- the opposite, in the form in which floats are answered -/
def cn (x : Nat) : Nat := canonB (negB x)
theorem cn_lt {x : Nat} (h : x < 18446744073709551616) : cn x < 18446744073709551616 := canon_lt (negB_lt' h)
theorem canon_cases {x : Nat} (_ : x < 18446744073709551616) : (isN x = true ∧ canonB x = quiet) ∨ (mg x = 0 ∧ canonB x = 0) ∨ (isN x = false ∧ mg x ≠ 0 ∧ canonB x = x) := by
  unfold canonB
  cases h : isN x
  · by_cases c : mg x = 0
    · exact .inr (.inl ⟨c, by simp [c]⟩)
    · exact .inr (.inr ⟨rfl, c, by simp [c]⟩)
  · exact .inl ⟨rfl, by simp⟩
theorem cn_canon {x : Nat} (hx : x < 18446744073709551616) : cn (canonB x) = cn x := by
  have h1 := negB_isN hx
  have h2 := negB_mg hx
  rcases canon_cases hx with ⟨h, e⟩ | ⟨h, e⟩ | ⟨h, k, e⟩
  · rw [e]; unfold cn canonB; rw [h1, h, if_pos rfl]; decide
  · rw [e]; unfold cn
    have : canonB (negB x) = 0 := by
      rcases canon_cases (negB_lt' hx) with ⟨a, b⟩ | ⟨a, b⟩ | ⟨a, a', b⟩
      · rw [h1] at a; unfold isN at a; rw [h] at a; simp at a
      · exact b
      · rw [h2] at a'; exact absurd h a'
    rw [this]; decide
  · rw [e]
theorem canon_cn (x : Nat) : canonB (cn x) = cn x := canon_idem _
theorem mgc {x : Nat} (hx : x < 18446744073709551616) (h : isN x = false) : mg (canonB x) = mg x ∧ sv (canonB x) = sv x := by
  rcases canon_cases hx with ⟨a, e⟩ | ⟨a, e⟩ | ⟨a, k, e⟩
  · rw [h] at a; cases a
  · rw [e]
    refine ⟨by rw [a]; decide, ?_⟩
    unfold sv
    rw [a]
    have h0 : mg 0 = 0 := by decide
    have h1 : mv 0 = 0 := by decide
    rw [h0, h1]; cases ng x <;> cases ng 0 <;> rfl
  · rw [e]; exact ⟨rfl, rfl⟩
theorem inf_canon {x : Nat} (hx : x < 18446744073709551616) (h : mg x = 9218868437227405312) : canonB x = x := by
  rcases canon_cases hx with ⟨a, e⟩ | ⟨a, e⟩ | ⟨a, k, e⟩
  · unfold isN at a; rw [h] at a; simp at a
  · omega
  · exact e
theorem isN_canon {x : Nat} (h : isN x = true) : isN (canonB x) = true := by unfold canonB; rw [h, if_pos rfl]; decide
theorem addB_canon {a b : Nat} (ha : a < 18446744073709551616) (hb : b < 18446744073709551616) : addB (canonB a) b = addB a b := by
  rcases three a with h | h | h
  · have hN : isN a = false := by unfold isN; rw [decide_eq_false (by omega)]
    obtain ⟨m, s⟩ := mgc ha hN
    rcases three b with k | k | k
    · rw [addB_fin a b ha hb h k, addB_fin _ b (canon_lt ha) hb (by rw [m]; exact h) k, s]
    · rw [addB_some (add_fi a b hb h k), addB_some (add_fi _ b hb (by rw [m]; exact h) k)]
    · rw [addB_none (add_nan a b (.inr k)), addB_none (add_nan _ b (.inr k))]
  · rw [inf_canon ha h]
  · rw [addB_none (add_nan a b (.inl h)), addB_none (add_nan _ b (.inl (isN_canon h)))]
theorem sbB_canon {a b : Nat} (ha : a < 18446744073709551616) (hb : b < 18446744073709551616) : sbB (canonB a) (canonB b) = sbB a b := by
  unfold sbB
  rw [addB_canon ha (negB_lt' (canon_lt hb)), addB_comm _ _ ha (negB_lt' (canon_lt hb)), ← addB_canon (negB_lt' (canon_lt hb)) ha]
  have e : canonB (negB (canonB b)) = canonB (negB b) := cn_canon hb
  rw [e, addB_canon (negB_lt' hb) ha, addB_comm _ _ (negB_lt' hb) ha]
theorem sbB_cn {a b : Nat} (ha : a < 18446744073709551616) (hb : b < 18446744073709551616) : sbB (cn a) (cn b) = cn (sbB a b) := by
  unfold cn; rw [sbB_canon (negB_lt' ha) (negB_lt' hb), sbB_negneg ha hb]
theorem sbB_sw {a b : Nat} (ha : a < 18446744073709551616) (hb : b < 18446744073709551616) : sbB b a = cn (sbB a b) := sbB_anti ha hb
theorem cut_even (s t : Bool) (n d : Nat) : Toward.even.cut s n d = Toward.even.cut t n d := rfl
theorem nearest_not (s : Bool) (m : Nat) (p : Int) : double.nearest (!s) m p = negB (double.nearest s m p) := by
  have hw : ∀ (s : Bool) r, r < 9223372036854775808 → double.word (!s) r = negB (double.word s r) := by
    intro s r hr
    rw [d_word, d_word]
    cases s
    · simp only [Bool.not_false, if_true, Bool.false_eq_true, if_false]
      unfold negB; rw [ng_of_lt hr]; simp; omega
    · simp only [Bool.not_true, if_true, Bool.false_eq_true, if_false]
      unfold negB; rw [ng_of_ge (by omega)]; simp
  unfold Format.nearest
  by_cases c : m = 0
  · rw [if_pos c, if_pos c]; exact hw s 0 (by omega)
  · rw [if_neg c, if_neg c]
    have hm : ∀ x, min x double.infRung < 9223372036854775808 := fun x => by
      have := Nat.min_le_right x double.infRung
      rw [d_inf] at this ⊢; omega
    exact hw s _ (hm _)
theorem write_opp (d : Datum) (h : ∀ s t, d ≠ .nan s t) : double.write d.opposite = negB (double.write d) := by
  cases d with
  | number s m i => exact nearest_not s m i
  | infinity s => cases s <;> decide +kernel
  | nan s t => exact absurd rfl (h s t)
theorem mul_opp (d e : Datum) : d.opposite.product e = (d.product e).map Datum.opposite ∧ (∀ s t, d.product e ≠ some (.nan s t)) := by
  cases d <;> cases e <;> simp [Datum.opposite, Datum.product] <;> (try split) <;> simp [Datum.opposite]
theorem div_opp (p : Nat) (d e : Datum) : d.opposite.quotient p e = (d.quotient p e).map Datum.opposite ∧ (∀ s t, d.quotient p e ≠ some (.nan s t)) := by
  cases d <;> cases e <;> simp [Datum.opposite, Datum.quotient] <;> (try split) <;> (try split) <;> simp [Datum.opposite]
theorem map_opp {o : Option Datum} (h : ∀ s t, o ≠ some (.nan s t)) : (o.map Datum.opposite).map double.write = (o.map double.write).map negB := by
  cases o with
  | none => rfl
  | some d => simp only [Option.map_some]; rw [write_opp d (fun s t e => h s t (by rw [e]))]
theorem div_lt64 {a b r : Nat} (h : double.div a b = some r) : r < 18446744073709551616 := by
  have hr : ∃ d, double.write d = r := by
    have h' : ((double.read a).quotient 54 (double.read b)).map double.write = some r := h
    rw [Option.map_eq_some_iff] at h'
    obtain ⟨d, _, e⟩ := h'
    exact ⟨d, e⟩
  obtain ⟨d, e⟩ := hr
  have hw : ∀ (s : Bool) q, q < 9223372036854775808 → double.word s q < 18446744073709551616 := by
    intro s q hq; rw [d_word]; split <;> omega
  have hb : double.binade = 4503599627370496 := d_bin
  have hi : double.infRung = 9218868437227405312 := d_inf
  rw [← e]
  cases d with
  | number s m i =>
    unfold Format.write Format.nearest
    dsimp only
    split
    · exact hw _ _ (by omega)
    · exact hw _ _ (Nat.lt_of_le_of_lt (Nat.min_le_right _ _) (by rw [hi]; omega))
  | infinity s => exact hw _ _ (by rw [hi]; omega)
  | nan s t =>
    refine hw _ _ ?_
    have := Nat.mod_lt t (show 0 < double.binade by rw [hb]; omega)
    rw [hi]; rw [hb] at this ⊢; omega
theorem dvB_cn {a b : Nat} (ha : a < 18446744073709551616) : dvB (negB a) b = cn (dvB a b) := by
  have key : double.div (negB a) b = (double.div a b).map negB := by
    show ((double.read (negB a)).quotient 54 (double.read b)).map double.write = (((double.read a).quotient 54 (double.read b)).map double.write).map negB
    rw [read_neg a ha, (div_opp 54 _ _).1]
    exact map_opp (div_opp 54 _ _).2
  cases h : double.div a b with
  | none => rw [h] at key; rw [dvB_none h, dvB_none key]; decide
  | some r => rw [h] at key; rw [dvB_some h, dvB_some key, cn_canon (div_lt64 h)]; rfl
theorem dvB_z (b : Nat) (h1 : mg b ≠ 0) (h2 : mg b < 9218868437227405312) (z : Nat) (hz : mg z = 0) : dvB z b = 0 := by
  obtain ⟨m, a, e, k⟩ := read_fin double b (by rw [rg_d, d_inf]; exact h2)
  have hm : m ≠ 0 := by
    intro h0
    rw [h0, Nat.zero_mul, rg_d] at k
    have k2 : mv (mg b) = 0 := k.symm
    refine h1 ?_
    unfold mv mag at k2
    split at k2
    · exact k2
    · exact absurd k2 (Nat.mul_ne_zero (by have := Nat.two_pow_pos 52; omega) (by have := Nat.two_pow_pos (mg b / 2 ^ 52 - 1); omega))
  have hd : ∃ s p, double.div z b = some (double.nearest s 0 p) := by
    have hq : ∃ s p, (double.read z).quotient 54 (double.read b) = some (.number s 0 p) := by
      rw [e, read_zero hz]
      unfold Datum.quotient
      dsimp only
      rw [if_neg hm]
      simp
    obtain ⟨s, p, hq⟩ := hq
    refine ⟨s, p, ?_⟩
    show ((double.read z).quotient 54 (double.read b)).map double.write = _
    rw [hq]; rfl
  obtain ⟨s, p, e⟩ := hd
  rw [dvB_some e]
  unfold Format.nearest
  rw [if_pos rfl]
  cases s <;> decide +kernel
theorem mul_key {a b : Nat} (ha : a < 18446744073709551616) : double.mul (negB a) b = (double.mul a b).map negB := by
  show ((double.read (negB a)).product (double.read b)).map double.write = (((double.read a).product (double.read b)).map double.write).map negB
  rw [read_neg a ha, (mul_opp _ _).1]
  exact map_opp (mul_opp _ _).2
theorem mlB_neg {a b : Nat} (ha : a < 18446744073709551616) (_ : b < 18446744073709551616) : canonB (mlB (negB a) b) = cn (mlB a b) := by
  have key := mul_key (b := b) ha
  cases h : double.mul a b with
  | none => rw [h] at key; rw [mlB_none h, mlB_none key]; decide
  | some r => rw [h] at key; rw [mlB_some h, mlB_some key]; rfl
/-- canonical factors -/
theorem mlB_canon {a b : Nat} (ha : a < 18446744073709551616) (hb : b < 18446744073709551616) : canonB (mlB (canonB a) b) = canonB (mlB a b) := by
  rcases canon_cases ha with ⟨h, e⟩ | ⟨h, e⟩ | ⟨h, k, e⟩
  · rw [e, mlB_none (mul_nan a b (.inl h)), mlB_none (mul_nan quiet b (.inl (by decide)))]
  · rw [e]
    cases hn : ng a
    · have : a = 0 := by have := lt_of_ng hn; rw [mg_of_lt this] at h; exact h
      rw [this]
    · have h2 : a = negB 0 := by
        have := ge_of_ng hn; unfold mg at h; show a = (if ng 0 then _ else _); rw [show ng 0 = false by decide]; simp; omega
      rw [h2, mlB_neg (by omega) hb]
      -- a nought times b, both ways
      have hz : ∀ r, double.mul 0 b = some r → mg r = 0 := by
        intro r hr
        rcases three b with k | k | k
        · rw [mul_d 0 b (by omega) hb (by decide) k] at hr
          have h0 : mv (mg 0) = 0 := by decide
          rw [h0, Nat.zero_mul] at hr
          have h1 : min (rung 52 1074 0) 9218868437227405312 = 0 := by decide +kernel
          rw [h1] at hr
          cases hr
          cases (ng 0 ^^ ng b) <;> decide
        · rw [mul_fi 0 b (by omega) hb (by decide) k, if_pos (by decide)] at hr; cases hr
        · rw [mul_nan 0 b (.inr k)] at hr; cases hr
      cases hm : double.mul 0 b with
      | none => rw [mlB_none hm]; decide
      | some r =>
        rw [mlB_some hm]
        have hr := mul_fact hm (by omega) hb
        have h0 := hz r hm
        rcases canon_cases hr.1 with ⟨a', b'⟩ | ⟨a', b'⟩ | ⟨a', k', b'⟩
        · rw [hr.2] at a'; cases a'
        · rw [b', ← cn_canon hr.1, b']; decide
        · exact absurd h0 k'
  · rw [e]
theorem mlB_cn {a b : Nat} (ha : a < 18446744073709551616) (hb : b < 18446744073709551616) : canonB (mlB (cn a) b) = cn (mlB a b) := by
  unfold cn; rw [mlB_canon (negB_lt' ha) hb, mlB_neg ha hb]; rfl
theorem mlB_cn' {a b : Nat} (ha : a < 18446744073709551616) (hb : b < 18446744073709551616) : canonB (mlB a (cn b)) = cn (mlB a b) := by
  rw [mlB_comm, mlB_cn hb ha, mlB_comm]
theorem lnB_cn1 {x y z : Nat} (hx : x < 18446744073709551616) : lnB (cn x) y z = lnB x y z := lnB_cn hx
theorem lnB_cn2 {x y z : Nat} (hx : x < 18446744073709551616) (hy : y < 18446744073709551616) : lnB x (cn y) z = lnB x y z := by
  rw [lnB_12 hx (cn_lt hy), lnB_cn1 hy, lnB_12 hy hx]
theorem lnB_cn3 {x y z : Nat} (hx : x < 18446744073709551616) (hy : y < 18446744073709551616) (hz : z < 18446744073709551616) : lnB x y (cn z) = lnB x y z := by
  rw [lnB_23 hx hy (cn_lt hz), lnB_cn2 hx hz, lnB_23 hx hz hy]
/-- whole numbers, and their quotients, as floats -/
def fB (k : Int) : Nat := rn false (k * one)
def qo (n : Nat) (k : Int) : Nat := dvB (fB k) (fB n)
theorem fB_lt (k : Int) : fB k < 18446744073709551616 := rn_lt _ _
theorem dvB_lt (a b : Nat) : dvB a b < 18446744073709551616 := by
  unfold dvB
  cases h : double.div a b with
  | none => decide
  | some r => exact canon_lt (div_lt64 h)
theorem qo_lt (n : Nat) (k : Int) : qo n k < 18446744073709551616 := dvB_lt _ _
theorem fB_neg (k : Int) : fB (-k) = cn (fB k) := by unfold fB cn; rw [rn_negv, Int.neg_mul]
theorem fB_norm : ∀ n : Nat, n < 33 → 1 ≤ n → mg (fB n) ≠ 0 ∧ mg (fB n) < 9218868437227405312 := by decide +kernel
theorem qo_neg {n : Nat} (h1 : 1 ≤ n) (h2 : n ≤ 32) (k : Int) : qo n (-k) = cn (qo n k) := by
  obtain ⟨b1, b2⟩ := fB_norm n (by omega) h1
  unfold qo
  rw [fB_neg]
  have hx := fB_lt k
  unfold cn
  rcases canon_cases (negB_lt' hx) with ⟨h, e⟩ | ⟨h, e⟩ | ⟨h, k', e⟩
  · rw [negB_isN hx] at h
    have : isN (fB k) = false := isN_rn _ _
    rw [this] at h; cases h
  · rw [e, dvB_z _ b1 b2 0 (by decide), dvB_z _ b1 b2 (fB k) (by rw [← negB_mg hx]; exact h)]; decide
  · rw [e, dvB_cn hx]; rfl
theorem qo_one : ∀ n : Nat, n < 33 → 1 ≤ n → qo n n = 4607182418800017408 := by decide +kernel
/-- a point: its length ahead of Unit, and its three parts -/
def pL (n : Nat) (v : P3) : Nat := lnB (qo n v.1) (qo n v.2.1) (qo n v.2.2)
def px (n : Nat) (v : P3) : Nat := unB (pL n v) (qo n v.1)
def py (n : Nat) (v : P3) : Nat := unB (pL n v) (qo n v.2.1)
def pz (n : Nat) (v : P3) : Nat := unB (pL n v) (qo n v.2.2)
theorem lv_fin {l : Nat} (hl : l < 18446744073709551616) (hn : ng l = false) (h : lvB l = true) : mg l ≠ 0 ∧ mg l < 9218868437227405312 := by
  rw [lv_class hl hn] at h
  unfold classB at h
  refine ⟨fun c => ?_, ?_⟩
  · rw [if_pos c] at h; revert h; decide
  · rcases Nat.lt_or_ge (mg l) 9218868437227405312 with k | k
    · exact k
    · rw [if_neg (by omega), if_neg (by omega), if_neg (by omega)] at h
      split at h <;> exact absurd h (by decide)
theorem dvB_nan {y l : Nat} (hy : isN y = true) : dvB y l = quiet := by
  refine dvB_none ?_
  rw [isN_true] at hy
  have ei := d_inf
  show ((double.read y).quotient 54 (double.read l)).map double.write = none
  rw [read_nan double y d_he (by rw [rg_d]; omega)]
  cases double.read l <;> rfl
theorem unB_cn (l x : Nat) (hl : l < 18446744073709551616) (hn : ng l = false) (hx : x < 18446744073709551616) : unB l (cn x) = cn (unB l x) := by
  unfold unB
  by_cases c : lvB l = true
  · rw [if_pos c, if_pos c]
    unfold cn
    rcases canon_cases (negB_lt' hx) with ⟨h, e⟩ | ⟨h, e⟩ | ⟨h, k', e⟩
    · have hxn : isN x = true := by rw [← negB_isN hx]; exact h
      rw [e, dvB_nan (y := quiet) (by decide), dvB_nan hxn]; decide
    · have hz : mg x = 0 := by rw [← negB_mg hx]; exact h
      have hl2 := lv_fin hl hn c
      rw [e, dvB_z l hl2.1 hl2.2 0 (by decide), dvB_z l hl2.1 hl2.2 x hz]; decide
    · rw [e, dvB_cn hx]; rfl
  · rw [if_neg c, if_neg c]; decide
theorem pL_lt (n : Nat) (v : P3) : pL n v < 18446744073709551616 := rtB_lt _
theorem pL_ng (n : Nat) (v : P3) : ng (pL n v) = false := rtB_ng _
theorem px_lt (n : Nat) (v : P3) : px n v < 18446744073709551616 := unB_lt _ _
theorem py_lt (n : Nat) (v : P3) : py n v < 18446744073709551616 := unB_lt _ _
theorem pz_lt (n : Nat) (v : P3) : pz n v < 18446744073709551616 := unB_lt _ _
/-- three simple steps -/
def op (k : Nat) (v : P3) : P3 := match k with | 0 => (v.2.1, v.1, v.2.2) | 1 => (v.1, v.2.2, v.2.1) | _ => (-v.1, v.2.1, v.2.2)
theorem op_cases (P : Nat → Prop) (h0 : P 0) (h1 : P 1) (h2 : ∀ k, P (k + 2)) : ∀ k, P k := by
  intro k
  match k with
  | 0 => exact h0
  | 1 => exact h1
  | k + 2 => exact h2 k
theorem pL_op {n : Nat} (h1 : 1 ≤ n) (h2 : n ≤ 32) (v : P3) : ∀ k, pL n (op k v) = pL n v := by
  refine op_cases _ ?_ ?_ (fun k => ?_)
  · exact lnB_12 (qo_lt _ _) (qo_lt _ _)
  · exact lnB_23 (qo_lt _ _) (qo_lt _ _) (qo_lt _ _)
  · show lnB (qo n (-v.1)) _ _ = _
    rw [qo_neg h1 h2, lnB_cn1 (qo_lt _ _)]; rfl
theorem p_op0 {n : Nat} (h1 : 1 ≤ n) (h2 : n ≤ 32) (v : P3) : px n (op 0 v) = py n v ∧ py n (op 0 v) = px n v ∧ pz n (op 0 v) = pz n v := by
  have h := pL_op h1 h2 v 0
  unfold px py pz; rw [h]; exact ⟨rfl, rfl, rfl⟩
theorem p_op1 {n : Nat} (h1 : 1 ≤ n) (h2 : n ≤ 32) (v : P3) : px n (op 1 v) = px n v ∧ py n (op 1 v) = pz n v ∧ pz n (op 1 v) = py n v := by
  have h := pL_op h1 h2 v 1
  unfold px py pz; rw [h]; exact ⟨rfl, rfl, rfl⟩
theorem p_op2 {n : Nat} (h1 : 1 ≤ n) (h2 : n ≤ 32) (v : P3) (k : Nat) : px n (op (k + 2) v) = cn (px n v) ∧ py n (op (k + 2) v) = py n v ∧ pz n (op (k + 2) v) = pz n v := by
  have h := pL_op h1 h2 v (k + 2)
  unfold px py pz
  rw [h]
  refine ⟨?_, rfl, rfl⟩
  show unB _ (qo n (-v.1)) = _
  rw [qo_neg h1 h2, unB_cn _ _ (pL_lt _ _) (pL_ng _ _) (qo_lt _ _)]
/-- how far two points are apart -/
def gp (n : Nat) (u v : P3) : Nat := lnB (sbB (px n u) (px n v)) (sbB (py n u) (py n v)) (sbB (pz n u) (pz n v))
theorem gp_op {n : Nat} (h1 : 1 ≤ n) (h2 : n ≤ 32) (u v : P3) : ∀ k, gp n (op k u) (op k v) = gp n u v := by
  have bx := sbB_lt (px_lt n u) (px_lt n v)
  have hy := sbB_lt (py_lt n u) (py_lt n v)
  have hz := sbB_lt (pz_lt n u) (pz_lt n v)
  refine op_cases _ ?_ ?_ (fun k => ?_)
  · obtain ⟨a, b, c⟩ := p_op0 h1 h2 u
    obtain ⟨d, e, f⟩ := p_op0 h1 h2 v
    unfold gp; rw [a, b, c, d, e, f]; exact lnB_12 hy bx
  · obtain ⟨a, b, c⟩ := p_op1 h1 h2 u
    obtain ⟨d, e, f⟩ := p_op1 h1 h2 v
    unfold gp; rw [a, b, c, d, e, f]; exact lnB_23 bx hz hy
  · obtain ⟨a, b, c⟩ := p_op2 h1 h2 u k
    obtain ⟨d, e, f⟩ := p_op2 h1 h2 v k
    unfold gp; rw [a, b, c, d, e, f, sbB_cn (px_lt _ _) (px_lt _ _), lnB_cn1 bx]
theorem gp_comm (n : Nat) (u v : P3) : gp n v u = gp n u v := by
  unfold gp
  rw [sbB_sw (px_lt n u) (px_lt n v), sbB_sw (py_lt n u) (py_lt n v), sbB_sw (pz_lt n u) (pz_lt n v)]
  have bx := sbB_lt (px_lt n u) (px_lt n v)
  have hy := sbB_lt (py_lt n u) (py_lt n v)
  have hz := sbB_lt (pz_lt n u) (pz_lt n v)
  rw [lnB_cn1 bx, lnB_cn2 bx hy, lnB_cn3 bx hy hz]
/-- the length of a cross product -/
def cl (x y z u v t : Nat) : Nat := lnB (sbB (mlB y t) (mlB z v)) (sbB (mlB z u) (mlB x t)) (sbB (mlB x v) (mlB y u))
theorem cl_12 {x y z u v t : Nat} (hx : x < 18446744073709551616) (hy : y < 18446744073709551616) (hz : z < 18446744073709551616) (hu : u < 18446744073709551616) (hv : v < 18446744073709551616) (ht : t < 18446744073709551616) : cl y x z v u t = cl x y z u v t := by
  unfold cl
  have a := sbB_lt (mlB_lt hy ht) (mlB_lt hz hv)
  have b := sbB_lt (mlB_lt hz hu) (mlB_lt hx ht)
  have c := sbB_lt (mlB_lt hx hv) (mlB_lt hy hu)
  rw [sbB_sw (mlB_lt hy ht) (mlB_lt hz hv), sbB_sw (mlB_lt hz hu) (mlB_lt hx ht), sbB_sw (mlB_lt hx hv) (mlB_lt hy hu)]
  rw [lnB_cn1 b, lnB_cn2 b a, lnB_cn3 b a c]
  exact lnB_12 b a
theorem cl_23 {x y z u v t : Nat} (hx : x < 18446744073709551616) (hy : y < 18446744073709551616) (hz : z < 18446744073709551616) (hu : u < 18446744073709551616) (hv : v < 18446744073709551616) (ht : t < 18446744073709551616) : cl x z y u t v = cl x y z u v t := by
  unfold cl
  have a := sbB_lt (mlB_lt hy ht) (mlB_lt hz hv)
  have b := sbB_lt (mlB_lt hz hu) (mlB_lt hx ht)
  have c := sbB_lt (mlB_lt hx hv) (mlB_lt hy hu)
  rw [sbB_sw (mlB_lt hy ht) (mlB_lt hz hv), sbB_sw (mlB_lt hz hu) (mlB_lt hx ht), sbB_sw (mlB_lt hx hv) (mlB_lt hy hu)]
  rw [lnB_cn1 a, lnB_cn2 a c, lnB_cn3 a c b]
  exact lnB_23 a c b
theorem sb_one {a b c d : Nat} (ha : a < 18446744073709551616) (hb : b < 18446744073709551616) (hc : c < 18446744073709551616) (hd : d < 18446744073709551616) : sbB (mlB (cn a) b) (mlB (cn c) d) = cn (sbB (mlB a b) (mlB c d)) := by
  rw [← sbB_canon (mlB_lt (cn_lt ha) hb) (mlB_lt (cn_lt hc) hd), mlB_cn ha hb, mlB_cn hc hd, sbB_cn (mlB_lt ha hb) (mlB_lt hc hd)]
theorem sb_mix {a b c d : Nat} (ha : a < 18446744073709551616) (hb : b < 18446744073709551616) (hc : c < 18446744073709551616) (hd : d < 18446744073709551616) : sbB (mlB a (cn b)) (mlB (cn c) d) = cn (sbB (mlB a b) (mlB c d)) := by
  rw [mlB_comm a, sb_one hb ha hc hd, mlB_comm b]
theorem sb_two {a b c d : Nat} (ha : a < 18446744073709551616) (hb : b < 18446744073709551616) (hc : c < 18446744073709551616) (hd : d < 18446744073709551616) : sbB (mlB a (cn b)) (mlB c (cn d)) = cn (sbB (mlB a b) (mlB c d)) := by
  rw [mlB_comm c, sb_mix ha hb hd hc, mlB_comm d]
theorem cl_n1 {x y z u v t : Nat} (hx : x < 18446744073709551616) (hy : y < 18446744073709551616) (hz : z < 18446744073709551616) (hu : u < 18446744073709551616) (hv : v < 18446744073709551616) (ht : t < 18446744073709551616) : cl (cn x) y z (cn u) v t = cl x y z u v t := by
  unfold cl
  have a := sbB_lt (mlB_lt hy ht) (mlB_lt hz hv)
  have b := sbB_lt (mlB_lt hz hu) (mlB_lt hx ht)
  have c := sbB_lt (mlB_lt hx hv) (mlB_lt hy hu)
  rw [sb_mix hz hu hx ht, mlB_comm (cn x) v, mlB_comm y (cn u), sb_mix hv hx hu hy, mlB_comm v x, mlB_comm u y, lnB_cn2 a b, lnB_cn3 a b c]
/-- the other one, and the first one turned round -/
theorem cl_rot {x y z u v t : Nat} (hx : x < 18446744073709551616) (hy : y < 18446744073709551616) (hz : z < 18446744073709551616) (hu : u < 18446744073709551616) (hv : v < 18446744073709551616) (ht : t < 18446744073709551616) : cl u v t (cn x) (cn y) (cn z) = cl x y z u v t := by
  unfold cl
  have a := sbB_lt (mlB_lt hy ht) (mlB_lt hz hv)
  have b := sbB_lt (mlB_lt hz hu) (mlB_lt hx ht)
  have c := sbB_lt (mlB_lt hx hv) (mlB_lt hy hu)
  rw [sb_two hv hz ht hy, sb_two ht hx hu hz, sb_two hu hy hv hx, mlB_comm v z, mlB_comm t y, mlB_comm t x, mlB_comm u z, mlB_comm u y, mlB_comm v x]
  rw [sbB_sw (mlB_lt hy ht) (mlB_lt hz hv), sbB_sw (mlB_lt hz hu) (mlB_lt hx ht), sbB_sw (mlB_lt hx hv) (mlB_lt hy hu)]
  rw [lnB_cn1 (cn_lt a), lnB_cn1 a, lnB_cn2 a (cn_lt b), lnB_cn2 a b, lnB_cn3 a b (cn_lt c), lnB_cn3 a b c]
/-- twice a cell's area, of its four corners -/
def ar (n : Nat) (p q r s : P3) : Nat := cl (sbB (px n r) (px n p)) (sbB (py n r) (py n p)) (sbB (pz n r) (pz n p)) (sbB (px n s) (px n q)) (sbB (py n s) (py n q)) (sbB (pz n s) (pz n q))
theorem ar_op {n : Nat} (h1 : 1 ≤ n) (h2 : n ≤ 32) (p q r s : P3) : ∀ k, ar n (op k p) (op k q) (op k r) (op k s) = ar n p q r s := by
  have bx := sbB_lt (px_lt n r) (px_lt n p)
  have hy := sbB_lt (py_lt n r) (py_lt n p)
  have hz := sbB_lt (pz_lt n r) (pz_lt n p)
  have hu := sbB_lt (px_lt n s) (px_lt n q)
  have hv := sbB_lt (py_lt n s) (py_lt n q)
  have ht := sbB_lt (pz_lt n s) (pz_lt n q)
  refine op_cases _ ?_ ?_ (fun k => ?_)
  · obtain ⟨a1, a2, a3⟩ := p_op0 h1 h2 p
    obtain ⟨b1, b2, b3⟩ := p_op0 h1 h2 q
    obtain ⟨c1, c2, c3⟩ := p_op0 h1 h2 r
    obtain ⟨d1, d2, d3⟩ := p_op0 h1 h2 s
    unfold ar; rw [a1, a2, a3, b1, b2, b3, c1, c2, c3, d1, d2, d3]; exact cl_12 bx hy hz hu hv ht
  · obtain ⟨a1, a2, a3⟩ := p_op1 h1 h2 p
    obtain ⟨b1, b2, b3⟩ := p_op1 h1 h2 q
    obtain ⟨c1, c2, c3⟩ := p_op1 h1 h2 r
    obtain ⟨d1, d2, d3⟩ := p_op1 h1 h2 s
    unfold ar; rw [a1, a2, a3, b1, b2, b3, c1, c2, c3, d1, d2, d3]; exact cl_23 bx hy hz hu hv ht
  · obtain ⟨a1, a2, a3⟩ := p_op2 h1 h2 p k
    obtain ⟨b1, b2, b3⟩ := p_op2 h1 h2 q k
    obtain ⟨c1, c2, c3⟩ := p_op2 h1 h2 r k
    obtain ⟨d1, d2, d3⟩ := p_op2 h1 h2 s k
    unfold ar; rw [a1, a2, a3, b1, b2, b3, c1, c2, c3, d1, d2, d3, sbB_cn (px_lt _ _) (px_lt _ _), sbB_cn (px_lt _ _) (px_lt _ _)]; exact cl_n1 bx hy hz hu hv ht
theorem ar_cyc (n : Nat) (p q r s : P3) : ar n q r s p = ar n p q r s := by
  have bx := sbB_lt (px_lt n r) (px_lt n p)
  have hy := sbB_lt (py_lt n r) (py_lt n p)
  have hz := sbB_lt (pz_lt n r) (pz_lt n p)
  have hu := sbB_lt (px_lt n s) (px_lt n q)
  have hv := sbB_lt (py_lt n s) (py_lt n q)
  have ht := sbB_lt (pz_lt n s) (pz_lt n q)
  unfold ar
  rw [sbB_sw (px_lt n r) (px_lt n p), sbB_sw (py_lt n r) (py_lt n p), sbB_sw (pz_lt n r) (pz_lt n p)]
  exact cl_rot bx hy hz hu hv ht
/-- each turn is some such steps -/
def rops (t : Nat) : List Nat := [[], [0, 2, 1, 0, 2, 0, 1, 0], [0, 2, 0, 1], [1, 0, 2, 0], [1, 0, 2, 0, 1, 0], [2, 0], [0, 1], [2, 1, 0, 2, 1, 0], [2, 1, 0, 2, 0, 1], [2, 0, 2, 0], [2, 1], [2, 0, 2, 1, 0, 2, 1, 0], [0, 2], [2, 0, 2, 1, 0, 2, 0, 1], [2, 0, 2, 1], [0, 2, 1, 0, 2, 0], [1, 0], [2, 0, 1, 0], [2, 0, 2, 0, 1, 0], [0, 2, 1, 0], [0, 2, 1, 0, 2, 1], [1, 0, 2, 1], [2, 1, 0, 2], [2, 0, 2, 1, 0, 2]].getD t []
theorem ro_ops (t : Nat) (ht : t < 24) (v : P3) : ro t v = (rops t).foldr op v := by
  obtain ⟨a, b, c⟩ := v
  have hl : t = 0 ∨ t = 1 ∨ t = 2 ∨ t = 3 ∨ t = 4 ∨ t = 5 ∨ t = 6 ∨ t = 7 ∨ t = 8 ∨ t = 9 ∨ t = 10 ∨ t = 11 ∨ t = 12 ∨ t = 13 ∨ t = 14 ∨ t = 15 ∨ t = 16 ∨ t = 17 ∨ t = 18 ∨ t = 19 ∨ t = 20 ∨ t = 21 ∨ t = 22 ∨ t = 23 := by omega
  rcases hl with rfl | rfl | rfl | rfl | rfl | rfl | rfl | rfl | rfl | rfl | rfl | rfl | rfl | rfl | rfl | rfl | rfl | rfl | rfl | rfl | rfl | rfl | rfl | rfl <;> simp [ro, rX, rY, rZ, cC, prp, cx, pl, sc, rops, op]
theorem gp_ro {n : Nat} (h1 : 1 ≤ n) (h2 : n ≤ 32) (t : Nat) (ht : t < 24) (u v : P3) : gp n (ro t u) (ro t v) = gp n u v := by
  rw [ro_ops t ht, ro_ops t ht]
  generalize rops t = l
  induction l with
  | nil => rfl
  | cons k l ih => simp only [List.foldr_cons]; rw [gp_op h1 h2, ih]
theorem ar_ro {n : Nat} (h1 : 1 ≤ n) (h2 : n ≤ 32) (t : Nat) (ht : t < 24) (p q r s : P3) : ar n (ro t p) (ro t q) (ro t r) (ro t s) = ar n p q r s := by
  rw [ro_ops t ht, ro_ops t ht, ro_ops t ht, ro_ops t ht]
  generalize rops t = l
  induction l with
  | nil => rfl
  | cons k l ih => simp only [List.foldr_cons]; rw [ar_op h1 h2, ih]
end Go.Proofs.YtdgkmaamjdglmaaDoor
