/-
  Some of the texts of this proof, one behind the other.
-/
import Derived.Deep.Draws
import Derived.Test.YtpfoohpncbkkfaaDoorZ04
namespace Go.Proofs.YtpfoohpncbkkfaaDoor
open Go.RowKit Tf
attribute [local go_sem] run_bits run_from raw_feq raw_fne raw_flt raw_fgt run_neg run_store_float
/-- is it a length by which a vector is divided? -/
def lvB (l : Nat) : Bool := fgt l 0 && !fgt l 9218868437227405311
def unB (l x : Nat) : Nat := if lvB l = true then dvB x l else 0
theorem unB_lt (l x : Nat) : unB l x < 18446744073709551616 := by
  unfold unB
  split
  · unfold dvB
    split
    · next r h => exact canon_lt (div_lt h)
    · decide
  · decide
set_option maxHeartbeats 1000000 in
theorem isInf_at (x : Nat) (w : World) :
    Calls Tryd.prog 106 #[.float .f64 x, .int .i64 1] w fun e w' => e = .returned (.bool (fgt x 9218868437227405311)) ∧ w' = w := by
  go_enter Tryd.func106, Tryd.ntmps106
  go_wp2
  go_ret
  exact ⟨rfl, rfl⟩
set_option maxHeartbeats 8000000 in
theorem unit_at (x y z : Nat) (w : World) (hx : x < 18446744073709551616) (hy : y < 18446744073709551616) (hz : z < 18446744073709551616) :
    Calls Tryd.prog 103 #[.agg #[.float .f64 x, .float .f64 y, .float .f64 z]] w fun e w' => e = .returned (.agg #[.float .f64 (unB (lnB x y z) x), .float .f64 (unB (lnB x y z) y), .float .f64 (unB (lnB x y z) z)]) ∧ Below w.heap.size w w' := by
  have LN := hid (fun w => length_at x y z w hx hy hz)
  obtain ⟨l, hl⟩ : ∃ l, lnB x y z = l := ⟨_, rfl⟩
  rw [hl]
  rw [hl] at LN
  have IF := hid (fun w => isInf_at l w)
  have A0 := hid (bl2 w (.cells #[.float .f64 x, .float .f64 y, .float .f64 z] 119) (.cells #[.float .f64 0, .float .f64 0, .float .f64 0] 119))
  have R0 := hid (And.intro (heap_alloc2_old w (.cells #[.float .f64 x, .float .f64 y, .float .f64 z] 119) (.cells #[.float .f64 0, .float .f64 0, .float .f64 0] 119)) (heap_alloc2_new w (.cells #[.float .f64 x, .float .f64 y, .float .f64 z] 119) (.cells #[.float .f64 0, .float .f64 0, .float .f64 0] 119)))
  clear hx hy hz hl
  obtain ⟨p1, hp1⟩ : ∃ p, fgt l 0 = p := ⟨_, rfl⟩
  obtain ⟨p2, hp2⟩ : ∃ p, fgt l 9218868437227405311 = p := ⟨_, rfl⟩
  rw [hp2] at IF
  cases p1 with
  | false =>
    have hu : ∀ k, unB l k = 0 := fun k => by simp [unB, lvB, hp1]
    rw [hu, hu, hu]
    clear hu
    go_enter Tryd.func103, Tryd.ntmps103
    go_wp2_with fail
    refine (LN.out _).mono ?_
    rintro e w1 ⟨rfl, b1⟩
    have r0 : w1.heap[w.heap.size + 1]? = some (.cells #[.float .f64 0, .float .f64 0, .float .f64 0] 119) := Ab.heap b1 R0.out.2
    have A1 : Hid (Ab w w1) := Ab.call A0.out b1
    obtain ⟨⟨o0, o1, o2⟩, o3, o4, o5⟩ := rowfacts r0
    have R1 := hid r0
    clear r0 b1 A0 R0
    go_wp2
    refine bodyPost_ret ?_ rfl ⟨rfl, ?_⟩
    · exact results_cell_row Tryd.results103 _ _ (w.heap.size + 1) _ _ (0, 0) _ rfl (row3 R1.out) Tryd.underlying119 rfl (by kernel_rfl)
    · exact ((Ab.setk A1.out (by omega) _).setk (by omega) _).setk (by omega) _
  | true =>
    cases p2 with
    | true =>
      have hu : ∀ k, unB l k = 0 := fun k => by simp [unB, lvB, hp2]
      rw [hu, hu, hu]
      clear hu hp2
      go_enter Tryd.func103, Tryd.ntmps103
      go_wp2_with fail
      refine (LN.out _).mono ?_
      rintro e w1 ⟨rfl, b1⟩
      have r0 : w1.heap[w.heap.size + 1]? = some (.cells #[.float .f64 0, .float .f64 0, .float .f64 0] 119) := Ab.heap b1 R0.out.2
      have A1 : Hid (Ab w w1) := Ab.call A0.out b1
      obtain ⟨⟨o0, o1, o2⟩, o3, o4, o5⟩ := rowfacts r0
      have R1 := hid r0
      clear r0 b1 A0 R0
      go_wp2_with fail
      refine (IF.out _).mono ?_
      rintro e w1 ⟨rfl, rfl⟩
      go_wp2
      refine bodyPost_ret ?_ rfl ⟨rfl, ?_⟩
      · exact results_cell_row Tryd.results103 _ _ (w.heap.size + 1) _ _ (0, 0) _ rfl (row3 R1.out) Tryd.underlying119 rfl (by kernel_rfl)
      · exact ((Ab.setk A1.out (by omega) _).setk (by omega) _).setk (by omega) _
    | false =>
      have hu : ∀ k, unB l k = dvB k l := fun k => by simp [unB, lvB, hp1, hp2]
      rw [hu, hu, hu]
      clear hu hp2
      go_enter Tryd.func103, Tryd.ntmps103
      go_wp2_with fail
      refine (LN.out _).mono ?_
      rintro e w1 ⟨rfl, b1⟩
      have r0 : w1.heap[w.heap.size + 1]? = some (.cells #[.float .f64 0, .float .f64 0, .float .f64 0] 119) := Ab.heap b1 R0.out.2
      have ra : w1.heap[w.heap.size]? = some (.cells #[.float .f64 x, .float .f64 y, .float .f64 z] 119) := Ab.heap b1 R0.out.1
      have A1 : Hid (Ab w w1) := Ab.call A0.out b1
      obtain ⟨-, a0, a1, a2⟩ := rowfacts ra
      have R1 := hid r0
      obtain ⟨r1, n1, k1, q1⟩ := div_any (P := Tryd.prog) w1 x l
      obtain ⟨r2, n2, k2, q2⟩ := div_any (P := Tryd.prog) (w1.drewN n1) y l
      obtain ⟨r3, n3, k3, q3⟩ := div_any (P := Tryd.prog) (w1.drewN (n1 + n2)) z l
      rw [World.drewN_drewN] at k2 k3
      have CN := hid (fun w => vcanon_at r1 r2 r3 _ _ _ w q1 q2 q3)
      clear r0 ra b1 A0 R0 q1 q2 q3
      go_wp2_with fail
      refine (IF.out _).mono ?_
      rintro e w1 ⟨rfl, rfl⟩
      go_wp2_with fail
      refine (CN.out _).mono ?_
      rintro e w4 ⟨rfl, b4⟩
      have A4 : Hid (Ab w w4) := Ab.call (Ab.drewN A1.out _) b4
      have r4 : w4.heap[w.heap.size + 1]? = some (.cells #[.float .f64 0, .float .f64 0, .float .f64 0] 119) := Ab.heap b4 R1.out
      obtain ⟨⟨o0, o1, o2⟩, o3, o4, o5⟩ := rowfacts r4
      have R4 := hid r4
      clear r4 b4 A1 R1 k1 k2 k3 a0 a1 a2
      go_wp2
      refine bodyPost_ret ?_ rfl ⟨rfl, ?_⟩
      · exact results_cell_row Tryd.results103 _ _ (w.heap.size + 1) _ _ (0, 0) _ rfl (row3 R4.out) Tryd.underlying119 rfl (by kernel_rfl)
      · exact ((Ab.setk A4.out (by omega) _).setk (by omega) _).setk (by omega) _
end Go.Proofs.YtpfoohpncbkkfaaDoor

namespace Go.Proofs.YtpfoohpncbkkfaaDoor
open Go.RowKit Tf
attribute [local go_sem] run_bits run_from raw_feq raw_fne raw_flt raw_fgt run_neg run_store_float
open Ieee in
theorem rtB_ng (x : Nat) : ng (rtB x) = false := by
  have key : ∀ r, double.sqrt x = some r → ng (canonB r) = false := by
    intro r h
    unfold Format.sqrt at h
    cases e : double.read x with
    | nan s f => rw [e] at h; simp [Datum.root] at h
    | infinity s =>
      rw [e] at h
      cases s
      · simp [Datum.root, Format.write] at h; subst h; decide
      · simp [Datum.root] at h
    | number s m i =>
      rw [e] at h
      unfold Datum.root at h
      dsimp only at h
      by_cases hm : m = 0
      · rw [if_pos hm] at h
        simp only [Option.map_some, Option.some.injEq, Format.write, Format.nearest, hm, if_true] at h
        subst h
        cases s <;> decide
      · rw [if_neg hm] at h
        cases s
        · simp only [Bool.false_eq_true, if_false, Option.map_some, Option.some.injEq, Format.write] at h
          subst h
          have hw : ∀ a b, double.nearest false a b ≤ 9218868437227405312 := by
            intro a b
            unfold Format.nearest
            split
            · rw [d_word]; simp
            · rw [d_word, d_inf]; simp only [Bool.false_eq_true, if_false]; exact Nat.min_le_right _ _
          generalize hq : double.nearest false _ _ = q
          have hle : q ≤ 9218868437227405312 := by rw [← hq]; exact hw _ _
          unfold canonB
          split
          · decide
          · split
            · decide
            · exact ng_of_lt (by omega)
        · simp at h
  cases h : double.sqrt x with
  | none => rw [rtB_none h]; decide
  | some r => rw [rtB_some h]; exact key r h
theorem rtB_lt (x : Nat) : rtB x < 18446744073709551616 := by
  cases h : Ieee.double.sqrt x with
  | none => rw [rtB_none h]; decide
  | some r => rw [rtB_some h]; exact canon_lt (sqrt_lt h)
/-- of a length: lives, or what class it has -/
theorem lv_class {l : Nat} (hl : l < 18446744073709551616) (hn : ng l = false) : lvB l = (classB l == 1 || classB l == 2) := by
  unfold lvB
  rw [fgt_rk l 0 hl (by decide), fgt_rk l _ hl (by decide)]
  have e1 : rk 0 = 0 := by decide
  have e2 : rk 9218868437227405311 = 9218868437227405311 := by decide
  have e3 : isN 0 = false := by decide
  have e4 : isN 9218868437227405311 = false := by decide
  have e5 : rk l = (mg l : Int) := by unfold rk; rw [hn]; rfl
  rw [e1, e2, e3, e4, e5]
  unfold classB isN
  by_cases a : mg l = 0
  · simp [a]
  · rw [if_neg a]
    by_cases b : mg l < 4503599627370496
    · rw [if_pos b]
      have : ¬ 9218868437227405312 < mg l := by omega
      simp [this]; omega
    · rw [if_neg b]
      by_cases c : mg l < 9218868437227405312
      · rw [if_pos c]
        have : ¬ 9218868437227405312 < mg l := by omega
        simp [this]; omega
      · rw [if_neg c]
        by_cases d : mg l = 9218868437227405312
        · rw [if_pos d]; simp [d]
        · rw [if_neg d]
          have : 9218868437227405312 < mg l := by omega
          simp [this]
end Go.Proofs.YtpfoohpncbkkfaaDoor

namespace Go.Proofs.YtpfoohpncbkkfaaDoor
open Tf Ieee
/-- a number whose square is normal -/
def Gn (x : Nat) : Prop := 4503599627370496 ≤ mg (sqB x) ∧ mg (sqB x) < 9218868437227405312
theorem sq_inf {x : Nat} (hx : x < 18446744073709551616) (h : mg x = 9218868437227405312) : sqB x = 9218868437227405312 := by
  unfold sqB
  rw [mlB_some (mul_ii x x hx hx h h), Bool.xor_self]
  rfl
theorem Gn.fin {x : Nat} (hx : x < 18446744073709551616) (h : Gn x) : mg x < 9218868437227405312 := by
  rcases three x with k | k | k
  · exact k
  · exfalso
    have := h.2
    rw [sq_inf hx k] at this
    exact absurd this (by decide)
  · exfalso
    have := h.2
    unfold sqB at this
    rw [mlB_none (mul_nan _ _ (.inl k))] at this
    exact absurd this (by decide)
end Go.Proofs.YtpfoohpncbkkfaaDoor

namespace Go.Proofs.YtpfoohpncbkkfaaDoor
open Tf Ieee
theorem pl_word {a b : Nat} (ha : a < 9218868437227405312) (hb : b < 9218868437227405312) : plB a b = min (rung 52 0 (mv a + mv b)) 9218868437227405312 := by
  have ma : mg a = a := mg_of_lt (by omega)
  have mb : mg b = b := mg_of_lt (by omega)
  have na : ng a = false := ng_of_lt (by omega)
  have nb : ng b = false := ng_of_lt (by omega)
  have ea : sv a = (mv a : Int) := by unfold sv; rw [na, ma]; rfl
  have eb : sv b = (mv b : Int) := by unfold sv; rw [nb, mb]; rfl
  rw [plB_some (add_d a b (by omega) (by omega) (by omega) (by omega)), na, ea, eb]
  unfold rn
  have : ¬ ((mv a : Int) + (mv b : Int) < 0) := by omega
  rw [decide_eq_false this]
  simp only [Bool.false_and, ite_self, Bool.false_eq_true, if_false]
  rw [show ((mv a : Int) + (mv b : Int)).natAbs = mv a + mv b by omega]
end Go.Proofs.YtpfoohpncbkkfaaDoor

namespace Go.Proofs.YtpfoohpncbkkfaaDoor
open Tf Ieee Cu
/-- the opposite, in the form in which floats are answered -/
def cn (x : Nat) : Nat := canonB (negB x)
theorem cn_lt {x : Nat} (h : x < 18446744073709551616) : cn x < 18446744073709551616 := canon_lt (negB_lt' h)
theorem canon_cases {x : Nat} (_ : x < 18446744073709551616) : (isN x = true ∧ canonB x = quiet) ∨ (mg x = 0 ∧ canonB x = 0) ∨ (isN x = false ∧ mg x ≠ 0 ∧ canonB x = x) := by
  unfold canonB
  cases h : isN x
  · by_cases c : mg x = 0
    · exact .inr (.inl ⟨c, by simp [c]⟩)
    · exact .inr (.inr ⟨rfl, c, by simp [c]⟩)
  · exact .inl ⟨rfl, by simp⟩
theorem cn_canon {x : Nat} (hx : x < 18446744073709551616) : cn (canonB x) = cn x := by
  have h1 := negB_isN hx
  have h2 := negB_mg hx
  rcases canon_cases hx with ⟨h, e⟩ | ⟨h, e⟩ | ⟨h, k, e⟩
  · rw [e]; unfold cn canonB; rw [h1, h, if_pos rfl]; decide
  · rw [e]; unfold cn
    have : canonB (negB x) = 0 := by
      rcases canon_cases (negB_lt' hx) with ⟨a, b⟩ | ⟨a, b⟩ | ⟨a, a', b⟩
      · rw [h1] at a; unfold isN at a; rw [h] at a; simp at a
      · exact b
      · rw [h2] at a'; exact absurd h a'
    rw [this]; decide
  · rw [e]
theorem mgc {x : Nat} (hx : x < 18446744073709551616) (h : isN x = false) : mg (canonB x) = mg x ∧ sv (canonB x) = sv x := by
  rcases canon_cases hx with ⟨a, e⟩ | ⟨a, e⟩ | ⟨a, k, e⟩
  · rw [h] at a; cases a
  · rw [e]
    refine ⟨by rw [a]; decide, ?_⟩
    unfold sv
    rw [a]
    have h0 : mg 0 = 0 := by decide
    have h1 : mv 0 = 0 := by decide
    rw [h0, h1]; cases ng x <;> cases ng 0 <;> rfl
  · rw [e]; exact ⟨rfl, rfl⟩
theorem inf_canon {x : Nat} (hx : x < 18446744073709551616) (h : mg x = 9218868437227405312) : canonB x = x := by
  rcases canon_cases hx with ⟨a, e⟩ | ⟨a, e⟩ | ⟨a, k, e⟩
  · unfold isN at a; rw [h] at a; simp at a
  · omega
  · exact e
theorem isN_canon {x : Nat} (h : isN x = true) : isN (canonB x) = true := by unfold canonB; rw [h, if_pos rfl]; decide
theorem addB_canon {a b : Nat} (ha : a < 18446744073709551616) (hb : b < 18446744073709551616) : addB (canonB a) b = addB a b := by
  rcases three a with h | h | h
  · have hN : isN a = false := by unfold isN; rw [decide_eq_false (by omega)]
    obtain ⟨m, s⟩ := mgc ha hN
    rcases three b with k | k | k
    · rw [addB_fin a b ha hb h k, addB_fin _ b (canon_lt ha) hb (by rw [m]; exact h) k, s]
    · rw [addB_some (add_fi a b hb h k), addB_some (add_fi _ b hb (by rw [m]; exact h) k)]
    · rw [addB_none (add_nan a b (.inr k)), addB_none (add_nan _ b (.inr k))]
  · rw [inf_canon ha h]
  · rw [addB_none (add_nan a b (.inl h)), addB_none (add_nan _ b (.inl (isN_canon h)))]
theorem sbB_canon {a b : Nat} (ha : a < 18446744073709551616) (hb : b < 18446744073709551616) : sbB (canonB a) (canonB b) = sbB a b := by
  unfold sbB
  rw [addB_canon ha (negB_lt' (canon_lt hb)), addB_comm _ _ ha (negB_lt' (canon_lt hb)), ← addB_canon (negB_lt' (canon_lt hb)) ha]
  have e : canonB (negB (canonB b)) = canonB (negB b) := cn_canon hb
  rw [e, addB_canon (negB_lt' hb) ha, addB_comm _ _ (negB_lt' hb) ha]
theorem sbB_cn {a b : Nat} (ha : a < 18446744073709551616) (hb : b < 18446744073709551616) : sbB (cn a) (cn b) = cn (sbB a b) := by
  unfold cn; rw [sbB_canon (negB_lt' ha) (negB_lt' hb), sbB_negneg ha hb]
theorem sbB_sw {a b : Nat} (ha : a < 18446744073709551616) (hb : b < 18446744073709551616) : sbB b a = cn (sbB a b) := sbB_anti ha hb
theorem nearest_not (s : Bool) (m : Nat) (p : Int) : double.nearest (!s) m p = negB (double.nearest s m p) := by
  have hw : ∀ (s : Bool) r, r < 9223372036854775808 → double.word (!s) r = negB (double.word s r) := by
    intro s r hr
    rw [d_word, d_word]
    cases s
    · simp only [Bool.not_false, if_true, Bool.false_eq_true, if_false]
      unfold negB; rw [ng_of_lt hr]; simp; omega
    · simp only [Bool.not_true, if_true, Bool.false_eq_true, if_false]
      unfold negB; rw [ng_of_ge (by omega)]; simp
  unfold Format.nearest
  by_cases c : m = 0
  · rw [if_pos c, if_pos c]; exact hw s 0 (by omega)
  · rw [if_neg c, if_neg c]
    have hm : ∀ x, min x double.infRung < 9223372036854775808 := fun x => by
      have := Nat.min_le_right x double.infRung
      rw [d_inf] at this ⊢; omega
    exact hw s _ (hm _)
theorem write_opp (d : Datum) (h : ∀ s t, d ≠ .nan s t) : double.write d.opposite = negB (double.write d) := by
  cases d with
  | number s m i => exact nearest_not s m i
  | infinity s => cases s <;> decide +kernel
  | nan s t => exact absurd rfl (h s t)
theorem mul_opp (d e : Datum) : d.opposite.product e = (d.product e).map Datum.opposite ∧ (∀ s t, d.product e ≠ some (.nan s t)) := by
  cases d <;> cases e <;> simp [Datum.opposite, Datum.product] <;> (try split) <;> simp [Datum.opposite]
theorem div_opp (p : Nat) (d e : Datum) : d.opposite.quotient p e = (d.quotient p e).map Datum.opposite ∧ (∀ s t, d.quotient p e ≠ some (.nan s t)) := by
  cases d <;> cases e <;> simp [Datum.opposite, Datum.quotient] <;> (try split) <;> (try split) <;> simp [Datum.opposite]
theorem map_opp {o : Option Datum} (h : ∀ s t, o ≠ some (.nan s t)) : (o.map Datum.opposite).map double.write = (o.map double.write).map negB := by
  cases o with
  | none => rfl
  | some d => simp only [Option.map_some]; rw [write_opp d (fun s t e => h s t (by rw [e]))]
theorem div_lt64 {a b r : Nat} (h : double.div a b = some r) : r < 18446744073709551616 := by
  have hr : ∃ d, double.write d = r := by
    have h' : ((double.read a).quotient 54 (double.read b)).map double.write = some r := h
    rw [Option.map_eq_some_iff] at h'
    obtain ⟨d, _, e⟩ := h'
    exact ⟨d, e⟩
  obtain ⟨d, e⟩ := hr
  have hw : ∀ (s : Bool) q, q < 9223372036854775808 → double.word s q < 18446744073709551616 := by
    intro s q hq; rw [d_word]; split <;> omega
  have hb : double.binade = 4503599627370496 := d_bin
  have hi : double.infRung = 9218868437227405312 := d_inf
  rw [← e]
  cases d with
  | number s m i =>
    unfold Format.write Format.nearest
    dsimp only
    split
    · exact hw _ _ (by omega)
    · exact hw _ _ (Nat.lt_of_le_of_lt (Nat.min_le_right _ _) (by rw [hi]; omega))
  | infinity s => exact hw _ _ (by rw [hi]; omega)
  | nan s t =>
    refine hw _ _ ?_
    have := Nat.mod_lt t (show 0 < double.binade by rw [hb]; omega)
    rw [hi]; rw [hb] at this ⊢; omega
theorem dvB_cn {a b : Nat} (ha : a < 18446744073709551616) : dvB (negB a) b = cn (dvB a b) := by
  have key : double.div (negB a) b = (double.div a b).map negB := by
    show ((double.read (negB a)).quotient 54 (double.read b)).map double.write = (((double.read a).quotient 54 (double.read b)).map double.write).map negB
    rw [read_neg a ha, (div_opp 54 _ _).1]
    exact map_opp (div_opp 54 _ _).2
  cases h : double.div a b with
  | none => rw [h] at key; rw [dvB_none h, dvB_none key]; decide
  | some r => rw [h] at key; rw [dvB_some h, dvB_some key, cn_canon (div_lt64 h)]; rfl
theorem dvB_z (b : Nat) (h1 : mg b ≠ 0) (h2 : mg b < 9218868437227405312) (z : Nat) (hz : mg z = 0) : dvB z b = 0 := by
  obtain ⟨m, a, e, k⟩ := read_fin double b (by rw [rg_d, d_inf]; exact h2)
  have hm : m ≠ 0 := by
    intro h0
    rw [h0, Nat.zero_mul, rg_d] at k
    have k2 : mv (mg b) = 0 := k.symm
    refine h1 ?_
    unfold mv mag at k2
    split at k2
    · exact k2
    · exact absurd k2 (Nat.mul_ne_zero (by have := Nat.two_pow_pos 52; omega) (by have := Nat.two_pow_pos (mg b / 2 ^ 52 - 1); omega))
  have hd : ∃ s p, double.div z b = some (double.nearest s 0 p) := by
    have hq : ∃ s p, (double.read z).quotient 54 (double.read b) = some (.number s 0 p) := by
      rw [e, read_zero hz]
      unfold Datum.quotient
      dsimp only
      rw [if_neg hm]
      simp
    obtain ⟨s, p, hq⟩ := hq
    refine ⟨s, p, ?_⟩
    show ((double.read z).quotient 54 (double.read b)).map double.write = _
    rw [hq]; rfl
  obtain ⟨s, p, e⟩ := hd
  rw [dvB_some e]
  unfold Format.nearest
  rw [if_pos rfl]
  cases s <;> decide +kernel
theorem mul_key {a b : Nat} (ha : a < 18446744073709551616) : double.mul (negB a) b = (double.mul a b).map negB := by
  show ((double.read (negB a)).product (double.read b)).map double.write = (((double.read a).product (double.read b)).map double.write).map negB
  rw [read_neg a ha, (mul_opp _ _).1]
  exact map_opp (mul_opp _ _).2
theorem mlB_neg {a b : Nat} (ha : a < 18446744073709551616) (_ : b < 18446744073709551616) : canonB (mlB (negB a) b) = cn (mlB a b) := by
  have key := mul_key (b := b) ha
  cases h : double.mul a b with
  | none => rw [h] at key; rw [mlB_none h, mlB_none key]; decide
  | some r => rw [h] at key; rw [mlB_some h, mlB_some key]; rfl
/-- canonical factors -/
theorem mlB_canon {a b : Nat} (ha : a < 18446744073709551616) (hb : b < 18446744073709551616) : canonB (mlB (canonB a) b) = canonB (mlB a b) := by
  rcases canon_cases ha with ⟨h, e⟩ | ⟨h, e⟩ | ⟨h, k, e⟩
  · rw [e, mlB_none (mul_nan a b (.inl h)), mlB_none (mul_nan quiet b (.inl (by decide)))]
  · rw [e]
    cases hn : ng a
    · have : a = 0 := by have := lt_of_ng hn; rw [mg_of_lt this] at h; exact h
      rw [this]
    · have h2 : a = negB 0 := by
        have := ge_of_ng hn; unfold mg at h; show a = (if ng 0 then _ else _); rw [show ng 0 = false by decide]; simp; omega
      rw [h2, mlB_neg (by omega) hb]
      -- a nought times b, both ways
      have hz : ∀ r, double.mul 0 b = some r → mg r = 0 := by
        intro r hr
        rcases three b with k | k | k
        · rw [mul_d 0 b (by omega) hb (by decide) k] at hr
          have h0 : mv (mg 0) = 0 := by decide
          rw [h0, Nat.zero_mul] at hr
          have h1 : min (rung 52 1074 0) 9218868437227405312 = 0 := by decide +kernel
          rw [h1] at hr
          cases hr
          cases (ng 0 ^^ ng b) <;> decide
        · rw [mul_fi 0 b (by omega) hb (by decide) k, if_pos (by decide)] at hr; cases hr
        · rw [mul_nan 0 b (.inr k)] at hr; cases hr
      cases hm : double.mul 0 b with
      | none => rw [mlB_none hm]; decide
      | some r =>
        rw [mlB_some hm]
        have hr := mul_fact hm (by omega) hb
        have h0 := hz r hm
        rcases canon_cases hr.1 with ⟨a', b'⟩ | ⟨a', b'⟩ | ⟨a', k', b'⟩
        · rw [hr.2] at a'; cases a'
        · rw [b', ← cn_canon hr.1, b']; decide
        · exact absurd h0 k'
  · rw [e]
theorem lnB_cn1 {x y z : Nat} (hx : x < 18446744073709551616) : lnB (cn x) y z = lnB x y z := lnB_cn hx
theorem lnB_cn2 {x y z : Nat} (hx : x < 18446744073709551616) (hy : y < 18446744073709551616) : lnB x (cn y) z = lnB x y z := by
  rw [lnB_12 hx (cn_lt hy), lnB_cn1 hy, lnB_12 hy hx]
theorem lnB_cn3 {x y z : Nat} (hx : x < 18446744073709551616) (hy : y < 18446744073709551616) (hz : z < 18446744073709551616) : lnB x y (cn z) = lnB x y z := by
  rw [lnB_23 hx hy (cn_lt hz), lnB_cn2 hx hz, lnB_23 hx hz hy]
/-- whole numbers, and their quotients, as floats -/
def fB (k : Int) : Nat := rn false (k * one)
def qo (n : Nat) (k : Int) : Nat := dvB (fB k) (fB n)
theorem fB_lt (k : Int) : fB k < 18446744073709551616 := rn_lt _ _
theorem dvB_lt (a b : Nat) : dvB a b < 18446744073709551616 := by
  unfold dvB
  cases h : double.div a b with
  | none => decide
  | some r => exact canon_lt (div_lt64 h)
theorem qo_lt (n : Nat) (k : Int) : qo n k < 18446744073709551616 := dvB_lt _ _
theorem fB_neg (k : Int) : fB (-k) = cn (fB k) := by unfold fB cn; rw [rn_negv, Int.neg_mul]
theorem fB_norm : ∀ n : Nat, n < 33 → 1 ≤ n → mg (fB n) ≠ 0 ∧ mg (fB n) < 9218868437227405312 := by decide +kernel
theorem qo_neg {n : Nat} (h1 : 1 ≤ n) (h2 : n ≤ 32) (k : Int) : qo n (-k) = cn (qo n k) := by
  obtain ⟨b1, b2⟩ := fB_norm n (by omega) h1
  unfold qo
  rw [fB_neg]
  have hx := fB_lt k
  unfold cn
  rcases canon_cases (negB_lt' hx) with ⟨h, e⟩ | ⟨h, e⟩ | ⟨h, k', e⟩
  · rw [negB_isN hx] at h
    have : isN (fB k) = false := isN_rn _ _
    rw [this] at h; cases h
  · rw [e, dvB_z _ b1 b2 0 (by decide), dvB_z _ b1 b2 (fB k) (by rw [← negB_mg hx]; exact h)]; decide
  · rw [e, dvB_cn hx]; rfl
theorem qo_one : ∀ n : Nat, n < 33 → 1 ≤ n → qo n n = 4607182418800017408 := by decide +kernel
/-- a point: its length ahead of Unit, and its three parts -/
def pL (n : Nat) (v : P3) : Nat := lnB (qo n v.1) (qo n v.2.1) (qo n v.2.2)
def px (n : Nat) (v : P3) : Nat := unB (pL n v) (qo n v.1)
def py (n : Nat) (v : P3) : Nat := unB (pL n v) (qo n v.2.1)
def pz (n : Nat) (v : P3) : Nat := unB (pL n v) (qo n v.2.2)
theorem lv_fin {l : Nat} (hl : l < 18446744073709551616) (hn : ng l = false) (h : lvB l = true) : mg l ≠ 0 ∧ mg l < 9218868437227405312 := by
  rw [lv_class hl hn] at h
  unfold classB at h
  refine ⟨fun c => ?_, ?_⟩
  · rw [if_pos c] at h; revert h; decide
  · rcases Nat.lt_or_ge (mg l) 9218868437227405312 with k | k
    · exact k
    · rw [if_neg (by omega), if_neg (by omega), if_neg (by omega)] at h
      split at h <;> exact absurd h (by decide)
theorem dvB_nan {y l : Nat} (hy : isN y = true) : dvB y l = quiet := by
  refine dvB_none ?_
  rw [isN_true] at hy
  have ei := d_inf
  show ((double.read y).quotient 54 (double.read l)).map double.write = none
  rw [read_nan double y d_he (by rw [rg_d]; omega)]
  cases double.read l <;> rfl
theorem unB_cn (l x : Nat) (hl : l < 18446744073709551616) (hn : ng l = false) (hx : x < 18446744073709551616) : unB l (cn x) = cn (unB l x) := by
  unfold unB
  by_cases c : lvB l = true
  · rw [if_pos c, if_pos c]
    unfold cn
    rcases canon_cases (negB_lt' hx) with ⟨h, e⟩ | ⟨h, e⟩ | ⟨h, k', e⟩
    · have hxn : isN x = true := by rw [← negB_isN hx]; exact h
      rw [e, dvB_nan (y := quiet) (by decide), dvB_nan hxn]; decide
    · have hz : mg x = 0 := by rw [← negB_mg hx]; exact h
      have hl2 := lv_fin hl hn c
      rw [e, dvB_z l hl2.1 hl2.2 0 (by decide), dvB_z l hl2.1 hl2.2 x hz]; decide
    · rw [e, dvB_cn hx]; rfl
  · rw [if_neg c, if_neg c]; decide
theorem pL_lt (n : Nat) (v : P3) : pL n v < 18446744073709551616 := rtB_lt _
theorem pL_ng (n : Nat) (v : P3) : ng (pL n v) = false := rtB_ng _
theorem px_lt (n : Nat) (v : P3) : px n v < 18446744073709551616 := unB_lt _ _
theorem py_lt (n : Nat) (v : P3) : py n v < 18446744073709551616 := unB_lt _ _
theorem pz_lt (n : Nat) (v : P3) : pz n v < 18446744073709551616 := unB_lt _ _
/-- three simple steps -/
def op8 (k : Nat) (v : P3) : P3 := match k with | 0 => (v.2.1, v.1, v.2.2) | 1 => (v.1, v.2.2, v.2.1) | _ => (-v.1, v.2.1, v.2.2)
theorem op_cases (P : Nat → Prop) (h0 : P 0) (h1 : P 1) (h2 : ∀ k, P (k + 2)) : ∀ k, P k := by
  intro k
  match k with
  | 0 => exact h0
  | 1 => exact h1
  | k + 2 => exact h2 k
theorem pL_op {n : Nat} (h1 : 1 ≤ n) (h2 : n ≤ 32) (v : P3) : ∀ k, pL n (op8 k v) = pL n v := by
  refine op_cases _ ?_ ?_ (fun k => ?_)
  · exact lnB_12 (qo_lt _ _) (qo_lt _ _)
  · exact lnB_23 (qo_lt _ _) (qo_lt _ _) (qo_lt _ _)
  · show lnB (qo n (-v.1)) _ _ = _
    rw [qo_neg h1 h2, lnB_cn1 (qo_lt _ _)]; rfl
theorem p_op0 {n : Nat} (h1 : 1 ≤ n) (h2 : n ≤ 32) (v : P3) : px n (op8 0 v) = py n v ∧ py n (op8 0 v) = px n v ∧ pz n (op8 0 v) = pz n v := by
  have h := pL_op h1 h2 v 0
  unfold px py pz; rw [h]; exact ⟨rfl, rfl, rfl⟩
theorem p_op1 {n : Nat} (h1 : 1 ≤ n) (h2 : n ≤ 32) (v : P3) : px n (op8 1 v) = px n v ∧ py n (op8 1 v) = pz n v ∧ pz n (op8 1 v) = py n v := by
  have h := pL_op h1 h2 v 1
  unfold px py pz; rw [h]; exact ⟨rfl, rfl, rfl⟩
theorem p_op2 {n : Nat} (h1 : 1 ≤ n) (h2 : n ≤ 32) (v : P3) (k : Nat) : px n (op8 (k + 2) v) = cn (px n v) ∧ py n (op8 (k + 2) v) = py n v ∧ pz n (op8 (k + 2) v) = pz n v := by
  have h := pL_op h1 h2 v (k + 2)
  unfold px py pz
  rw [h]
  refine ⟨?_, rfl, rfl⟩
  show unB _ (qo n (-v.1)) = _
  rw [qo_neg h1 h2, unB_cn _ _ (pL_lt _ _) (pL_ng _ _) (qo_lt _ _)]
/-- how far two points are apart -/
def gp (n : Nat) (u v : P3) : Nat := lnB (sbB (px n u) (px n v)) (sbB (py n u) (py n v)) (sbB (pz n u) (pz n v))
theorem gp_op {n : Nat} (h1 : 1 ≤ n) (h2 : n ≤ 32) (u v : P3) : ∀ k, gp n (op8 k u) (op8 k v) = gp n u v := by
  have bx := sbB_lt (px_lt n u) (px_lt n v)
  have hy := sbB_lt (py_lt n u) (py_lt n v)
  have hz := sbB_lt (pz_lt n u) (pz_lt n v)
  refine op_cases _ ?_ ?_ (fun k => ?_)
  · obtain ⟨a, b, c⟩ := p_op0 h1 h2 u
    obtain ⟨d, e, f⟩ := p_op0 h1 h2 v
    unfold gp; rw [a, b, c, d, e, f]; exact lnB_12 hy bx
  · obtain ⟨a, b, c⟩ := p_op1 h1 h2 u
    obtain ⟨d, e, f⟩ := p_op1 h1 h2 v
    unfold gp; rw [a, b, c, d, e, f]; exact lnB_23 bx hz hy
  · obtain ⟨a, b, c⟩ := p_op2 h1 h2 u k
    obtain ⟨d, e, f⟩ := p_op2 h1 h2 v k
    unfold gp; rw [a, b, c, d, e, f, sbB_cn (px_lt _ _) (px_lt _ _), lnB_cn1 bx]
theorem gp_comm (n : Nat) (u v : P3) : gp n v u = gp n u v := by
  unfold gp
  rw [sbB_sw (px_lt n u) (px_lt n v), sbB_sw (py_lt n u) (py_lt n v), sbB_sw (pz_lt n u) (pz_lt n v)]
  have bx := sbB_lt (px_lt n u) (px_lt n v)
  have hy := sbB_lt (py_lt n u) (py_lt n v)
  have hz := sbB_lt (pz_lt n u) (pz_lt n v)
  rw [lnB_cn1 bx, lnB_cn2 bx hy, lnB_cn3 bx hy hz]
/-- the length of a cross product -/
def cl (x y z u v t : Nat) : Nat := lnB (sbB (mlB y t) (mlB z v)) (sbB (mlB z u) (mlB x t)) (sbB (mlB x v) (mlB y u))
/-- twice a cell's area, of its four corners -/
def ar (n : Nat) (p q r s : P3) : Nat := cl (sbB (px n r) (px n p)) (sbB (py n r) (py n p)) (sbB (pz n r) (pz n p)) (sbB (px n s) (px n q)) (sbB (py n s) (py n q)) (sbB (pz n s) (pz n q))
/-- each turn is some such steps -/
def rops (t : Nat) : List Nat := [[], [0, 2, 1, 0, 2, 0, 1, 0], [0, 2, 0, 1], [1, 0, 2, 0], [1, 0, 2, 0, 1, 0], [2, 0], [0, 1], [2, 1, 0, 2, 1, 0], [2, 1, 0, 2, 0, 1], [2, 0, 2, 0], [2, 1], [2, 0, 2, 1, 0, 2, 1, 0], [0, 2], [2, 0, 2, 1, 0, 2, 0, 1], [2, 0, 2, 1], [0, 2, 1, 0, 2, 0], [1, 0], [2, 0, 1, 0], [2, 0, 2, 0, 1, 0], [0, 2, 1, 0], [0, 2, 1, 0, 2, 1], [1, 0, 2, 1], [2, 1, 0, 2], [2, 0, 2, 1, 0, 2]].getD t []
theorem ro_ops (t : Nat) (ht : t < 24) (v : P3) : ro t v = (rops t).foldr op8 v := by
  obtain ⟨a, b, c⟩ := v
  have hl : t = 0 ∨ t = 1 ∨ t = 2 ∨ t = 3 ∨ t = 4 ∨ t = 5 ∨ t = 6 ∨ t = 7 ∨ t = 8 ∨ t = 9 ∨ t = 10 ∨ t = 11 ∨ t = 12 ∨ t = 13 ∨ t = 14 ∨ t = 15 ∨ t = 16 ∨ t = 17 ∨ t = 18 ∨ t = 19 ∨ t = 20 ∨ t = 21 ∨ t = 22 ∨ t = 23 := by omega
  rcases hl with rfl | rfl | rfl | rfl | rfl | rfl | rfl | rfl | rfl | rfl | rfl | rfl | rfl | rfl | rfl | rfl | rfl | rfl | rfl | rfl | rfl | rfl | rfl | rfl <;> simp [ro, rX, rY, rZ, cC, prp, cx, pl, sc, rops, op8]
theorem gp_ro {n : Nat} (h1 : 1 ≤ n) (h2 : n ≤ 32) (t : Nat) (ht : t < 24) (u v : P3) : gp n (ro t u) (ro t v) = gp n u v := by
  rw [ro_ops t ht, ro_ops t ht]
  generalize rops t = l
  induction l with
  | nil => rfl
  | cons k l ih => simp only [List.foldr_cons]; rw [gp_op h1 h2, ih]
end Go.Proofs.YtpfoohpncbkkfaaDoor

namespace Go.Proofs.YtpfoohpncbkkfaaDoor
open Tf Ieee Cu
theorem turned_geo {n M c s t k : Nat} (hn : 1 ≤ n) (hM : 6 * n * n = M) (hc : c < M) (hs : s < 4) (ht : t < 24) (hk : k < M) :
    (tnC n t c < M ∧ tnS n t c < 4 ∧ bsC n c s < M ∧ bsS n c s < 4 ∧ tnS n t (bsC n c s) < 4) ∧ bsC n (tnC n t c) ((s + tnS n t c) % 4) = tnC n t (bsC n c s) ∧ bsS n (tnC n t c) ((s + tnS n t c) % 4) = (bsS n c s + tnS n t (bsC n c s)) % 4 ∧ (tnC n t k = tnC n t c ↔ k = c) ∧ tnC n 0 c = c ∧ tnS n 0 c = 0 := by
  subst hM
  obtain ⟨f, a, b, hf, ha, hb, rfl⟩ := Pn_ex hn hc hs
  obtain ⟨t1, t2⟩ := tf_lt t ht f hf
  obtain ⟨f1, f2⟩ := nf_lt f hf s hs
  obtain ⟨u1, u2⟩ := tf_lt t ht _ f1
  obtain ⟨b1, b2⟩ := bs_Pn (f := f) hs ha hb
  obtain ⟨c1, c2⟩ := tn_Pn ht hf hs ha hb
  obtain ⟨z1, z2⟩ := tf_zero f hf
  obtain ⟨d1, d2⟩ := tn_Pn (t := 0) (by omega) hf hs ha hb
  have hq : (s + tq t f) % 4 < 4 := by omega
  have hzero : tnC n 0 (Pn n f s a b) = Pn n f s a b ∧ tnS n 0 (Pn n f s a b) = 0 := by
    rw [d1, d2, z1, z2, Nat.add_zero, Nat.mod_eq_of_lt hs]; exact ⟨rfl, rfl⟩
  have hinj : tnC n t k = tnC n t (Pn n f s a b) ↔ k = Pn n f s a b := by
    obtain ⟨f', a', b', hf', ha', hb', rfl⟩ := Pn_ex hn hk hs
    obtain ⟨g1, g2⟩ := tn_Pn ht hf' hs ha' hb'
    refine ⟨fun e => ?_, fun e => by rw [e]⟩
    rw [g1, c1] at e
    have e1 := (Pn_dec (f := tf t f') (show (s + tq t f') % 4 < 4 by omega) ha' hb').1
    have e2 := (Pn_dec (f := tf t f) hq ha hb).1
    rw [e, e2] at e1
    have ef := tf_inj t ht f hf f' hf' e1
    subst ef
    obtain ⟨_, h1, h2⟩ := Pn_inj hq ha' hb' ha hb e
    rw [h1, h2]
  obtain ⟨v1, v2⟩ := nf_tf t ht f hf s hs
  by_cases h : a + 1 < n
  · rw [if_pos h] at b1 b2
    obtain ⟨e1, e2⟩ := tn_Pn (t := t) (f := f) (s := s) (b := b) ht hf hs h hb
    obtain ⟨g1, g2⟩ := bs_Pn (f := tf t f) hq ha hb
    rw [if_pos h] at g1 g2
    rw [b1, b2, e1, e2, c1, c2, g1, g2]
    refine ⟨⟨Pn_lt t1 ha hb, t2, Pn_lt hf h hb, by omega, t2⟩, rfl, by omega, ?_, hzero⟩
    rw [← c1]; exact hinj
  · rw [if_neg h] at b1 b2
    have h0 : 0 < n := by omega
    obtain ⟨e1, e2⟩ := tn_Pn (t := t) ht f1 f2 h0 hb
    obtain ⟨g1, g2⟩ := bs_Pn (f := tf t f) hq ha hb
    rw [if_neg h, v1, v2] at g1
    rw [if_neg h, v2] at g2
    rw [b1, b2, e1, e2, c1, c2, g1, g2]
    refine ⟨⟨Pn_lt t1 ha hb, t2, Pn_lt f1 h0 hb, by omega, u2⟩, rfl, by omega, ?_, hzero⟩
    rw [← c1]; exact hinj

/-- a corner of a face's net -/
def cr (n f i j : Nat) : P3 := pl (sc n (cC f)) (pl (sc (2 * i - n) (cR f)) (sc (2 * j - n) (cU f)))
/-- the two corners of a side -/
def e1 (n f s i j : Nat) : P3 := match s with | 0 => cr n f (i + 1) j | 1 => cr n f i (j + 1) | 2 => cr n f i j | _ => cr n f i j
def e2 (n f s i j : Nat) : P3 := match s with | 0 => cr n f (i + 1) (j + 1) | 1 => cr n f (i + 1) (j + 1) | 2 => cr n f i (j + 1) | _ => cr n f (i + 1) j
/-- of a cell by its number: its middle, the corners of a side, their gap, the gap of the middles, twice its area -/
def MD (n c : Nat) : P3 := md n (cf n c) (ci n c) (cj n c)
def C1 (n c s : Nat) : P3 := e1 n (cf n c) s (ci n c) (cj n c)
def C2 (n c s : Nat) : P3 := e2 n (cf n c) s (ci n c) (cj n c)
def LnC (n c s : Nat) : Nat := gp n (C1 n c s) (C2 n c s)
def GpC (n c s : Nat) : Nat := gp n (MD n c) (MD n (bsC n c s))
def ArC (n c : Nat) : Nat := ar n (cr n (cf n c) (ci n c) (cj n c)) (cr n (cf n c) (ci n c + 1) (cj n c)) (cr n (cf n c) (ci n c + 1) (cj n c + 1)) (cr n (cf n c) (ci n c) (cj n c + 1))
theorem MD_Pn {n f s a b : Nat} (hf : f < 6) (hs : s < 4) (ha : a < n) (hb : b < n) : MD n (Pn n f s a b) = ms n f s a b ∧ cf n (Pn n f s a b) = f := by
  have h := at_lt (s := s) ha hb
  obtain ⟨h1, h2, h3⟩ := nm_dec (f := f) h.1 h.2
  unfold MD Pn
  rw [h1, h2, h3, md_ms hf hs ha hb]
  exact ⟨rfl, rfl⟩
theorem tn_dec {n t c : Nat} (hn : 1 ≤ n) (hc : c < 6 * n * n) (ht : t < 24) : cf n (tnC n t c) = tf t (cf n c) ∧ MD n (tnC n t c) = ro t (MD n c) := by
  obtain ⟨h1, h2, h3, _⟩ := dec_lt hn hc
  obtain ⟨t1, t2⟩ := tf_lt t ht _ h1
  unfold tnC
  obtain ⟨m1, m2⟩ := MD_Pn t1 t2 h2 h3
  refine ⟨m2, ?_⟩
  rw [m1]
  unfold MD
  rw [ro_md ht h1 h2 h3, md_ms t1 t2 h2 h3]
theorem gap_turn {n t c s : Nat} (hn : 1 ≤ n) (h32 : n ≤ 32) (hc : c < 6 * n * n) (hs : s < 4) (ht : t < 24) : GpC n (tnC n t c) ((s + tnS n t c) % 4) = GpC n c s := by
  obtain ⟨h1, h2, -⟩ := turned_geo (k := c) hn rfl hc hs ht hc
  unfold GpC
  rw [h2, (tn_dec hn hc ht).2, (tn_dec hn h1.2.2.1 ht).2, gp_ro hn h32 t ht]
end Go.Proofs.YtpfoohpncbkkfaaDoor

namespace Go.Proofs.YtpfoohpncbkkfaaDoor
open Tf

/-- what a finite double is made whole to; whether it is one of 64 bits; the answer -/
def cq (way : Ieee.Toward) (x : Nat) : Int := if ng x then -((cutq way (ng x) (mv (mg x)) one : Nat) : Int) else ((cutq way (ng x) (mv (mg x)) one : Nat) : Int)
def cOk (way : Ieee.Toward) (x : Nat) : Bool := fin x && decide (-9223372036854775808 ≤ cq way x) && decide (cq way x < 9223372036854775808)
def cI (way : Ieee.Toward) (x : Nat) : Int := if cOk way x then cq way x else 0
/-- a double that is no NaN, made whole -/
def itV (way : Ieee.Toward) (x : Nat) : Nat := Ieee.double.write ((Ieee.double.read x).integral way)

/-- the code's own test, and its answer -/
def wOk (y : Nat) : Bool := (fgt y 14114281232179134464 || feq y 14114281232179134464) && flt y 4890909195324358656
def wI (y : Nat) : Int := if wOk y then (if ng y then -((mv (mg y) / one : Nat) : Int) else ((mv (mg y) / one : Nat) : Int)) else 0

theorem mv_p63 : mv 4890909195324358656 = 2 ^ 63 * one := mv_from_one 63 _ (by decide)

theorem wOk_rk (y : Nat) (hy : y < 18446744073709551616) : wOk y = (!isN y && decide (-4890909195324358656 ≤ rk y) && decide (rk y < 4890909195324358656)) := by
  unfold wOk
  rw [fgt_rk y _ hy (by decide), feq_rk y _ hy (by decide), flt_rk y _ hy (by decide)]
  have n1 : isN 14114281232179134464 = false := by decide
  have n2 : isN 4890909195324358656 = false := by decide
  have r1 : rk 14114281232179134464 = -4890909195324358656 := by decide
  have r2 : rk 4890909195324358656 = 4890909195324358656 := by decide
  rw [n1, n2, r1, r2]
  cases isN y
  · simp only [Bool.not_false, Bool.and_self, Bool.true_and]
    congr 1
    rw [← Bool.decide_or]
    exact decide_eq_decide.2 (by omega)
  · simp

theorem wOk_fin {y : Nat} (hy : y < 18446744073709551616) (h : wOk y = true) : mg y ≤ 4890909195324358656 ∧ (ng y = false → mg y < 4890909195324358656) := by
  rw [wOk_rk y hy] at h
  simp only [Bool.and_eq_true, decide_eq_true_eq] at h
  obtain ⟨⟨_, a⟩, b⟩ := h
  unfold rk at a b
  cases hn : ng y <;> rw [hn] at a b <;> simp only [Bool.false_eq_true, if_false, if_true] at a b
  · exact ⟨by omega, fun _ => by omega⟩
  · exact ⟨by omega, fun h => by cases h⟩

theorem wI_conv {y : Nat} (hy : y < 18446744073709551616) (h : wOk y = true) : floatToIntVal .f64 y .i64 = some (wI y) := by
  obtain ⟨a, b⟩ := wOk_fin hy h
  unfold floatToIntVal
  have e : (FloatKind.f64.decode y).toInt .zero = some (if ng y then -((mv (mg y) / one : Nat) : Int) else ((mv (mg y) / one : Nat) : Int)) := toInt_d y hy (by omega)
  rw [e]
  have hw : wI y = (if ng y then -((mv (mg y) / one : Nat) : Int) else ((mv (mg y) / one : Nat) : Int)) := by unfold wI; rw [h]; rfl
  rw [← hw]
  have hle : mv (mg y) / one ≤ 2 ^ 63 := by
    have h1 := mv_le.2 a
    rw [mv_p63] at h1
    have h2 := Nat.div_le_div_right (c := one) h1
    rwa [Nat.mul_div_cancel _ one_pos] at h2
  have hlt : ng y = false → mv (mg y) / one < 2 ^ 63 := by
    intro h'
    rw [Nat.div_lt_iff_lt_mul one_pos, ← mv_p63]
    exact mv_lt.2 (b h')
  have hb : IntKind.i64.min ≤ wI y ∧ wI y ≤ IntKind.i64.max := by
    have m1 : IntKind.i64.min = -9223372036854775808 := by decide
    have m2 : IntKind.i64.max = 9223372036854775807 := by decide
    rw [m1, m2, hw]
    generalize mv (mg y) / one = q at *
    cases hn : ng y
    · have := hlt hn
      simp only [Bool.false_eq_true, if_false]; omega
    · simp only [if_true]; omega
  simp only [hb, and_self, if_true]

theorem itV_lt (way : Ieee.Toward) (x : Nat) : itV way x < 18446744073709551616 := Ieee.double.write_lt _

/-- what a finite double is made whole to is that number -/
theorem itV_fin (way : Ieee.Toward) (x : Nat) (hx : x < 18446744073709551616) (fx : mg x < 9218868437227405312) :
    ng (itV way x) = ng x ∧ mg (itV way x) < 9218868437227405312 ∧ mv (mg (itV way x)) = cutq way (ng x) (mv (mg x)) one * one := by
  obtain ⟨r, hr, e, hw⟩ := integral_d way x hx fx
  have hw' : itV way x = if ng x then 9223372036854775808 + r else r := hw
  rw [hw']
  cases hn : ng x
  · simp only [Bool.false_eq_true, if_false]
    rw [ng_of_lt (by omega), mg_of_lt (by omega)]
    exact ⟨rfl, hr, by rw [hn] at e; exact e⟩
  · simp only [if_true]
    rw [ng_of_ge (by omega), mg_of_ge (by omega) (by omega)]
    rw [show 9223372036854775808 + r - 9223372036854775808 = r by omega]
    exact ⟨rfl, hr, by rw [hn] at e; exact e⟩
theorem sv_itV (way : Ieee.Toward) (x : Nat) (hx : x < 18446744073709551616) (fx : mg x < 9218868437227405312) : sv (itV way x) = cq way x * one := by
  obtain ⟨a, _, c⟩ := itV_fin way x hx fx
  unfold sv cq
  rw [a, c]
  cases ng x <;> simp [Int.neg_mul]
theorem itV_inf (way : Ieee.Toward) (x : Nat) (hx : x < 18446744073709551616) (fx : mg x = 9218868437227405312) : itV way x = x := by
  have ei := d_inf
  unfold itV
  rw [read_inf Ieee.double x d_he (by rw [rg_d]; omega), sg_d x hx]
  simp only [Ieee.Datum.integral, Ieee.Format.write]
  rw [d_word, d_inf]
  have hw := word_eq x hx
  rw [fx] at hw
  exact hw.symm

theorem sv_p63 : sv 4890909195324358656 = 9223372036854775808 * (one : Int) := by
  unfold sv
  have h1 : ng 4890909195324358656 = false := by decide
  have h2 : mg 4890909195324358656 = 4890909195324358656 := by decide
  rw [h1, h2, mv_p63]
  simp only [Bool.false_eq_true, if_false, Int.natCast_mul]
  rfl
theorem sv_n63 : sv 14114281232179134464 = -9223372036854775808 * (one : Int) := by
  unfold sv
  have h1 : ng 14114281232179134464 = true := by decide
  have h2 : mg 14114281232179134464 = 4890909195324358656 := by decide
  rw [h1, h2, mv_p63]
  simp only [if_true, Int.natCast_mul, ← Int.neg_mul]
  rfl
theorem onep : (0 : Int) < (one : Int) := by exact_mod_cast one_pos

theorem wOk_itV (way : Ieee.Toward) (x : Nat) (hx : x < 18446744073709551616) (n : isN x = false) : wOk (itV way x) = cOk way x := by
  have hle := isN_false.1 n
  by_cases fx : mg x < 9218868437227405312
  · obtain ⟨a, b, c⟩ := itV_fin way x hx fx
    have hn : isN (itV way x) = false := isN_false.2 (by omega)
    rw [wOk_rk _ (itV_lt way x), hn]
    unfold cOk
    have hf : fin x = true := by unfold fin; exact decide_eq_true fx
    rw [hf]
    have r1 : rk 14114281232179134464 = -4890909195324358656 := by decide
    have r2 : rk 4890909195324358656 = 4890909195324358656 := by decide
    have s1 := sv_lt_iff (itV way x) 14114281232179134464
    have s2 := sv_lt_iff (itV way x) 4890909195324358656
    rw [r1, sv_itV way x hx fx, sv_n63, Int.mul_lt_mul_right onep] at s1
    rw [r2, sv_itV way x hx fx, sv_p63, Int.mul_lt_mul_right onep] at s2
    have t1 : decide (-4890909195324358656 ≤ rk (itV way x)) = decide (-9223372036854775808 ≤ cq way x) := decide_eq_decide.2 (by omega)
    have t2 : decide (rk (itV way x) < 4890909195324358656) = decide (cq way x < 9223372036854775808) := decide_eq_decide.2 (by omega)
    rw [t1, t2]; simp
  · have e : mg x = 9218868437227405312 := by omega
    rw [itV_inf way x hx e, wOk_rk x hx, n]
    unfold cOk
    have hf : fin x = false := by unfold fin; exact decide_eq_false fx
    rw [hf]
    unfold rk; rw [e]
    cases ng x <;> simp
theorem wI_itV (way : Ieee.Toward) (x : Nat) (hx : x < 18446744073709551616) (n : isN x = false) : wI (itV way x) = cI way x := by
  unfold wI cI
  rw [wOk_itV way x hx n]
  cases h : cOk way x
  · rfl
  · have fx : mg x < 9218868437227405312 := by
      unfold cOk at h
      simp only [Bool.and_eq_true] at h
      have := h.1.1
      unfold fin at this
      simpa using this
    obtain ⟨a, b, c⟩ := itV_fin way x hx fx
    rw [if_pos rfl, if_pos rfl, a, c, Nat.mul_div_cancel _ one_pos]
    rfl
theorem wOk_nan {y : Nat} (hy : y < 18446744073709551616) (n : isN y = true) : wOk y = false ∧ wI y = 0 := by
  have h : wOk y = false := by rw [wOk_rk y hy, n]; rfl
  exact ⟨h, by unfold wI; rw [h]; rfl⟩
theorem cOk_nan (way : Ieee.Toward) {x : Nat} (n : isN x = true) : cOk way x = false ∧ cI way x = 0 := by
  have h : cOk way x = false := by
    unfold cOk fin
    have := isN_true.1 n
    rw [decide_eq_false (by omega)]; rfl
  exact ⟨h, by unfold cI; rw [h]; rfl⟩

end Go.Proofs.YtpfoohpncbkkfaaDoor

namespace Go.Proofs.YtpfoohpncbkkfaaDoor
open Go.RowKit Tf
attribute [local go_sem] run_bits run_from raw_feq raw_fne raw_flt raw_fgt run_neg

/-- a signalling NaN made whole: a NaN that is drawn -/
def snan (w : World) (x : Nat) : Nat :=
  if (Question.extern "math.Floor,Ceil,Trunc,RoundToEven.signallingNaN kept" 2).cut (w.tape w.drawn (Question.extern "math.Floor,Ceil,Trunc,RoundToEven.signallingNaN kept" 2)) == 1 then x
  else FloatKind.f64.encode (.nan (sg Ieee.double x) (FloatKind.f64.format.quiet (rg Ieee.double x - Ieee.double.infRung)))
theorem or_bit (t : Nat) (h : t < 4503599627370496) : Ieee.double.quiet t % 4503599627370496 = Ieee.double.quiet t ∧ 0 < Ieee.double.quiet t := by
  have e : Ieee.double.quiet t = t ||| 2 ^ 51 := rfl
  rw [e]
  have h1 : t ||| 2 ^ 51 < 2 ^ 52 := Nat.or_lt_two_pow (by omega) (by omega)
  have h2 : 2 ^ 51 ≤ t ||| 2 ^ 51 := Nat.right_le_or
  omega
theorem snan_nan (w : World) (x : Nat) (hx : x < 18446744073709551616) (n : isN x = true) : snan w x < 18446744073709551616 ∧ isN (snan w x) = true := by
  have ei := d_inf
  have hm := mg_lt x
  have hn := isN_true.1 n
  unfold snan
  split
  · exact ⟨hx, n⟩
  · rw [rg_d, sg_d x hx, ei]
    obtain ⟨q1, q2⟩ := or_bit (mg x - 9218868437227405312) (by omega)
    have e : ∀ (b : Bool) (t : Nat), FloatKind.f64.encode (.nan b t) = if b then 9223372036854775808 + (9218868437227405312 + t % 4503599627370496) else 9218868437227405312 + t % 4503599627370496 := by
      intro b t
      show Ieee.double.word b (Ieee.double.infRung + t % Ieee.double.binade) = _
      rw [d_word, d_inf, d_bin]
    rw [e]
    change (if ng x = true then 9223372036854775808 + (9218868437227405312 + Ieee.double.quiet (mg x - 9218868437227405312) % 4503599627370496) else 9218868437227405312 + Ieee.double.quiet (mg x - 9218868437227405312) % 4503599627370496) < _ ∧ isN (if ng x = true then 9223372036854775808 + (9218868437227405312 + Ieee.double.quiet (mg x - 9218868437227405312) % 4503599627370496) else 9218868437227405312 + Ieee.double.quiet (mg x - 9218868437227405312) % 4503599627370496) = true
    generalize Ieee.double.quiet (mg x - 9218868437227405312) = t at *
    have ht : t % 4503599627370496 < 4503599627370496 := Nat.mod_lt _ (by decide)
    rw [isN_true]
    cases ng x
    · simp only [Bool.false_eq_true, if_false]
      refine ⟨by omega, ?_⟩
      rw [mg_of_lt (by omega)]; omega
    · simp only [if_true]
      refine ⟨by omega, ?_⟩
      rw [mg_of_ge (by omega) (by omega)]; omega

/-- is it a NaN that is quiet? -/
def qNaN (x : Nat) : Bool := FloatKind.f64.format.quiet (rg Ieee.double x - Ieee.double.infRung) == rg Ieee.double x - Ieee.double.infRung
theorem ext_num (nm : String) (way : Ieee.Toward) (x : Nat) (n : isN x = false) : Extern.MathFloor.toIntegral nm way #[.float .f64 x] = pure (.float .f64 (itV way x)) := by
  have ei := d_inf
  have h := isN_false.1 n
  unfold itV
  by_cases c : mg x < 9218868437227405312
  · obtain ⟨m, a, e, _⟩ := read_fin Ieee.double x (by rw [rg_d]; omega)
    show (match Ieee.double.read x with | .nan _ _ => _ | _ => _) = _
    rw [e]; rfl
  · show (match Ieee.double.read x with | .nan _ _ => _ | _ => _) = _
    rw [read_inf Ieee.double x d_he (by rw [rg_d]; omega)]; rfl
theorem ext_nan (nm : String) (way : Ieee.Toward) (x : Nat) (n : isN x = true) (q : qNaN x = true) : Extern.MathFloor.toIntegral nm way #[.float .f64 x] = pure (.float .f64 x) := by
  have ei := d_inf
  have h := isN_true.1 n
  unfold qNaN at q
  show (match Ieee.double.read x with | .nan _ _ => _ | _ => _) = _
  rw [read_nan Ieee.double x d_he (by rw [rg_d]; omega)]
  dsimp only
  rw [if_pos (by simpa using q)]
theorem ext_snan (nm : String) (way : Ieee.Toward) (x : Nat) (n : isN x = true) (q : qNaN x = false) (P : Program) (w : World) : (Extern.MathFloor.toIntegral nm way #[.float .f64 x]).run P w = .ok (.float .f64 (snan w x)) w.drew := by
  have ei := d_inf
  have h := isN_true.1 n
  unfold qNaN at q
  show Sem.run P (match Ieee.double.read x with | .nan _ _ => _ | _ => _) w = _
  rw [read_nan Ieee.double x d_he (by rw [rg_d]; omega)]
  dsimp only
  rw [if_neg (by simpa using q)]
  simp [Question.forced, snan]

theorem run_even (x : Nat) (w : World) (n : isN x = false) : (callFunc 95 #[.float .f64 x]).run Tryd.prog w = .ok (.value (.float .f64 (itV .even x))) w := by
  rw [run_callFunc_extern (e := Extern.MathFloor.toIntegral "math.RoundToEven" .even) Tryd.func95 (by kernel_rfl) (by kernel_rfl) (by kernel_rfl) (by kernel_rfl), ext_num _ _ x n]
  rfl
theorem run_even_nan (x : Nat) (w : World) (n : isN x = true) (q : qNaN x = true) : (callFunc 95 #[.float .f64 x]).run Tryd.prog w = .ok (.value (.float .f64 x)) w := by
  rw [run_callFunc_extern (e := Extern.MathFloor.toIntegral "math.RoundToEven" .even) Tryd.func95 (by kernel_rfl) (by kernel_rfl) (by kernel_rfl) (by kernel_rfl), ext_nan _ _ x n q]
  rfl
theorem run_even_snan (x : Nat) (w : World) (n : isN x = true) (q : qNaN x = false) : (callFunc 95 #[.float .f64 x]).run Tryd.prog w = .ok (.value (.float .f64 (snan w x))) w.drew := by
  rw [run_callFunc_extern (e := Extern.MathFloor.toIntegral "math.RoundToEven" .even) Tryd.func95 (by kernel_rfl) (by kernel_rfl) (by kernel_rfl) (by kernel_rfl), ext_snan _ _ x n q]
  rfl
set_option maxHeartbeats 1000000 in
theorem whole_at (y : Nat) (i : Int) (ok : Bool) (w : World) (hy : y < 18446744073709551616) (hi : wI y = i) (ho : wOk y = ok) :
    Calls Tryd.prog 94 #[.float .f64 y] w fun e w' => e = .returned (.tuple #[.int .i64 i, .bool ok]) ∧ w' = w := by
  have hc : wOk y = true → floatToIntVal .f64 y .i64 = some i := by intro h; rw [wI_conv hy h, hi]
  have h0 : wOk y = false → i = 0 := by intro h; rw [← hi]; unfold wI; rw [h]; rfl
  have hw : wOk y = ((fgt y 14114281232179134464 || feq y 14114281232179134464) && flt y 4890909195324358656) := rfl
  clear hi
  cases hg : (fgt y 14114281232179134464 || feq y 14114281232179134464)
  · rw [hg] at hw
    have hw' : wOk y = false := hw
    obtain rfl := h0 hw'
    obtain rfl : ok = false := by rw [← ho, hw']
    clear hw hw' h0 hc ho
    go_enter Tryd.func94, Tryd.ntmps94
    go_wp2
    go_ret2
    exact ⟨rfl, rfl⟩
  · cases hl : flt y 4890909195324358656
    · rw [hg, hl] at hw
      have hw' : wOk y = false := hw
      obtain rfl := h0 hw'
      obtain rfl : ok = false := by rw [← ho, hw']
      clear hw hw' h0 hc ho
      go_enter Tryd.func94, Tryd.ntmps94
      go_wp2
      go_ret2
      exact ⟨rfl, rfl⟩
    · rw [hg, hl] at hw
      have hw' : wOk y = true := hw
      obtain rfl : ok = true := by rw [← ho, hw']
      have hcv := fun (w : World) => run_convert_float_int (P := Tryd.prog) w 22 2 .f64 .i64 y i (by kernel_rfl) (by kernel_rfl) (hc hw')
      clear hw hw' h0 hc ho
      go_enter Tryd.func94, Tryd.ntmps94
      go_wp2
      go_ret2
      exact ⟨rfl, rfl⟩

set_option maxHeartbeats 1000000 in
theorem round_at (x : Nat) (i : Int) (ok : Bool) (w : World) (hx : x < 18446744073709551616) (hi : cI .even x = i) (ho : cOk .even x = ok) :
    Calls Tryd.prog 82 #[.float .f64 x] w fun e w' => e = .returned (.tuple #[.int .i64 i, .bool ok]) ∧ ∃ n, w' = w.drewN n := by
  cases n : isN x
  · have r := fun (w : World) => run_even x w n
    have l := itV_lt .even x
    have a := wI_itV .even x hx n
    have b := wOk_itV .even x hx n
    rw [hi] at a
    rw [ho] at b
    generalize itV .even x = y at *
    clear hi ho n
    go_enter Tryd.func82, Tryd.ntmps82
    go_wp2_with fail
    refine (whole_at y i ok _ l a b).mono ?_
    rintro e w' ⟨rfl, rfl⟩
    go_wp2
    go_ret2
    exact ⟨rfl, 0, rfl⟩
  · obtain ⟨h1, h2⟩ := cOk_nan .even n
    rw [hi] at h2
    rw [ho] at h1
    subst h1 h2
    cases q : qNaN x
    · have r := fun (w : World) => run_even_snan x w n q
      have l := fun (w : World) => (snan_nan w x hx n).1
      have l2 := fun (w : World) => wOk_nan (l w) (snan_nan w x hx n).2
      clear hi ho n q
      go_enter Tryd.func82, Tryd.ntmps82
      go_wp2_with fail
      refine (whole_at _ 0 false _ (l _) (l2 _).2 (l2 _).1).mono ?_
      rintro e w' ⟨rfl, rfl⟩
      go_wp2
      go_ret2
      exact ⟨rfl, 1, rfl⟩
    · have r := fun (w : World) => run_even_nan x w n q
      have l2 := wOk_nan hx n
      clear hi ho n q
      go_enter Tryd.func82, Tryd.ntmps82
      go_wp2_with fail
      refine (whole_at x 0 false _ hx l2.2 l2.1).mono ?_
      rintro e w' ⟨rfl, rfl⟩
      go_wp2
      go_ret2
      exact ⟨rfl, 0, rfl⟩

set_option maxHeartbeats 1000000 in
theorem fromInt_any (n : Int) (w : World) :
    Calls Tryd.prog 56 #[.int .i64 n] w fun e w' => e = .returned (.float .f64 (rn false (n * one))) ∧ w' = w := by
  have hc := fun (w : World) => run_convert_int_float (P := Tryd.prog) w 2 22 .i64 .f64 n (by kernel_rfl) (by kernel_rfl)
  have e : floatOfInt .f64 n = rn false (n * one) := ofInt_d n
  rw [e] at hc
  generalize rn false (n * one) = y at *
  clear e
  go_enter Tryd.func56, Tryd.ntmps56
  go_wp2
  go_ret
  exact ⟨rfl, rfl⟩
end Go.Proofs.YtpfoohpncbkkfaaDoor
