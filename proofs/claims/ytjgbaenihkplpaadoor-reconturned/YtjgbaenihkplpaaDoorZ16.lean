/-
  Some of the texts of this proof, one behind the other.
-/
import Derived.Test.YtjgbaenihkplpaaDoorZ15
import Derived.Test.YtjgbaenihkplpaaDoorZ09
import Derived.Test.YtjgbaenihkplpaaDoorZ07
import Derived.Test.YtjgbaenihkplpaaDoorZ14
import Derived.Test.YtjgbaenihkplpaaDoorZ03
import Derived.Test.YtjgbaenihkplpaaDoorZ12
import Derived.Test.YtjgbaenihkplpaaDoorZ11
import Derived.Test.YtjgbaenihkplpaaDoorZ13
import Derived.Test.YtjgbaenihkplpaaDoorZ08
import Derived.Deep.QuietTactic
/-
  The depth over an edge of a flat bed: by plain numbers (no program).
-/
namespace Go.Proofs.YtjgbaenihkplpaaDoor
open Tf Ieee
theorem dp_least : dpB 1 9223372036854775807 = 4323455642275676160 := by decide +kernel
/-- a depth is nothing or at least 2^-63 -/
theorem dp_low {w a : Int} (w2 : w ≤ 9223372036854775807) (a2 : a ≤ 9223372036854775807) : dpB w a = 0 ∨ (4323455642275676160 ≤ dpB w a ∧ dpB w a ≤ 9146810843189477376) := by
  by_cases c : w < 1 ∨ a < 1
  · exact .inl (dp_zero c)
  · right
    have h1 := dp_mono (w := 1) (w' := w) (a := a) (by omega) w2 a2
    have h2 := dp_anti (w := 1) (a := a) (a' := 9223372036854775807) (by omega) a2 (by decide) (by decide)
    rw [dp_least] at h2
    exact ⟨by omega, dp_le w2 a2⟩
/-- half of what isn't small -/
theorem half_of {h : Nat} (h1 : 9007199254740992 ≤ h) (h2 : h < 9218868437227405312) : mlB 4602678819172646912 h = h - 4503599627370496 ∧ mv h = 2 * mv (h - 4503599627370496) := by
  obtain ⟨g, rfl⟩ : ∃ g, h = g + 4503599627370496 := ⟨h - 4503599627370496, by omega⟩
  rw [Nat.add_sub_cancel]
  have d := mv_dbl (r := g) (by omega)
  refine ⟨?_, d⟩
  have e := mul_exact 4602678819172646912 (g + 4503599627370496) g (by decide) (by decide) h2 (by omega) (by
    rw [show mg 4602678819172646912 = 4602678819172646912 by decide, d, ← Nat.mul_assoc, Nat.mul_comm (mv 4602678819172646912) 2, mv_half, Nat.mul_comm])
  rw [mlB_some e]
  rfl
theorem half_neg {p : Nat} (hp : p < 9218868437227405312) : mlB 4602678819172646912 (p + 9223372036854775808) = mlB 4602678819172646912 p + 9223372036854775808 := by
  have mp : mg p = p := mg_of_lt (by omega)
  have mq : mg (p + 9223372036854775808) = p := by unfold mg; omega
  have nq : ng (p + 9223372036854775808) = true := ng_of_ge (by omega)
  rw [mul_w (by decide) (by omega) (by decide) (by omega), mul_w (by decide) (by omega) (by decide) (by omega), mp, mq, nq, ng_of_lt (x := p) (by omega), show ng 4602678819172646912 = false by decide]
  simp only [Bool.false_xor, if_true, Bool.false_eq_true, if_false]
  exact Nat.add_comm _ _
/-- a difference of two depths -/
theorem sb_nn {x y : Nat} (hx : x < 9218868437227405312) (hy : y < 9218868437227405312) : sbB x y = rn false ((mv x : Int) - mv y) := by
  have mx : mg x = x := mg_of_lt (by omega)
  have my : mg y = y := mg_of_lt (by omega)
  have e := sub_d x y (by omega) (by omega) (by omega) (by omega)
  rw [sub_add x y (by omega)] at e
  unfold sbB
  rw [addB_some e, canon_rn, sv_nn (d := x) (by omega), sv_nn (d := y) (by omega)]
theorem rn_ng {v : Int} (h : v < 0) : rn false v = 9223372036854775808 + (R (-v)).toNat := by
  have e : (-v).natAbs = v.natAbs := Int.natAbs_neg v
  unfold rn R
  rw [e, if_neg (show ¬ v = 0 by omega), decide_eq_true h, if_pos rfl, if_neg (show ¬ -v < 0 by omega)]
  generalize min (rung 52 0 v.natAbs) 9218868437227405312 = m
  rw [Int.toNat_natCast]
/-- a slope is nothing where the depths don't go on one way -/
theorem slp_turn (k : Int) {h b n : Nat} (hh : h < 9218868437227405312) (hb : b < 9218868437227405312) (hn : n < 9218868437227405312) (q : (b ≤ h ∧ n ≤ h) ∨ (h ≤ b ∧ h ≤ n)) : slp k (sbB h b) (sbB n h) = 0 := by
  have up : ∀ {x y : Nat}, x < 9218868437227405312 → y < 9218868437227405312 → y ≤ x → ns (sbB x y) = false := fun {x y} hx hy l => by
    rw [sb_nn hx hy, rn_nn (by have := mv_le.2 l; omega)]
    have := R_top ((mv x : Int) - mv y)
    exact ns_no.2 (by omega)
  have dn : ∀ {x y : Nat}, x < 9218868437227405312 → y < 9218868437227405312 → x ≤ y → ps (sbB x y) = false := fun {x y} hx hy l => by
    by_cases e : x = y
    · subst e
      rw [sb_nn hx hy, Int.sub_self, show rn false 0 = 0 by decide]
      decide
    · have := mv_lt.2 (show x < y by omega)
      rw [sb_nn hx hy, rn_ng (by omega)]
      exact ps_no.2 (by omega)
  rcases q with ⟨q1, q2⟩ | ⟨q1, q2⟩
  · exact slp_z (by rw [dn hn hh q2, Bool.and_false]) (by rw [up hh hb q1, Bool.false_and])
  · exact slp_z (by rw [dn hh hb q1, Bool.false_and]) (by rw [up hn hh q2, Bool.and_false])
theorem lm_1 (a b : Nat) : lm 1 a b = min a b := by unfold lm; rw [if_pos rfl]
theorem min_in {X Y s h c : Nat} (hs : min (X - c) (Y - c) = s) (y : Y - c ≤ h) (a : c < X) (b : c < Y) : s ≤ h ∧ 0 < s := by omega
theorem add_in {t h c l : Nat} (a : t ≤ h - c) (b : h < l) : t < l := by omega
/-- by Minmod it is no less than half the depth here -/
theorem flat_half {h b n : Nat} (hh : h = 0 ∨ (9007199254740992 ≤ h ∧ h < 9218868437227405312)) (_hb : b < 9218868437227405312) (hn : n < 9218868437227405312) : mlB 4602678819172646912 h ≤ pos0 (minB (rcV 1 h b n) h) ∧ pos0 (minB (rcV 1 h b n) h) ≤ 9218868437227405312 := by
  have hl : h < 9218868437227405312 := by omega
  have half : mlB 4602678819172646912 h ≤ h := by
    rcases hh with rfl | hh
    · rw [ml_h0]; exact Nat.le_refl _
    · rw [(half_of hh.1 hh.2).1]; omega
  by_cases p : (ps (sbB h b) && ps (sbB n h)) = true
  · have q := (Bool.and_eq_true _ _).mp p
    have a1 := ps_iff.1 q.1
    have a2 := ps_iff.1 q.2
    have e : slp 1 (sbB h b) (sbB n h) = min (sbB h b) (sbB n h) := by rw [slp_p q.1 q.2]; rfl
    have u := ml_nn (x := 4602678819172646912) (y := min (sbB h b) (sbB n h)) (by decide) (by omega) (by decide) (by omega)
    have v := plB_nn (a := h) (by omega) u
    unfold rcV
    rw [e, minB_nn v.1 (by omega), Nat.min_eq_right v.2.1, pos0_nn (by omega)]
    omega
  · by_cases m : (ns (sbB h b) && ns (sbB n h)) = true
    · have q := (Bool.and_eq_true _ _).mp m
      have a1 := ns_iff.1 q.1
      have a2 := ns_iff.1 q.2
      have l : n < h := by
        by_cases l : n < h
        · exact l
        · exfalso
          have g := mv_le.2 (show h ≤ n by omega)
          rw [sb_nn hn hl, rn_nn (by omega)] at a2
          have := R_top ((mv n : Int) - mv h)
          omega
      have h2 : 9007199254740992 ≤ h := by omega
      obtain ⟨e1, e2⟩ := half_of h2 hl
      have y : sbB n h - 9223372036854775808 ≤ h := by
        have g := mv_lt.2 l
        rw [sb_nn hn hl, rn_ng (by omega)]
        have r := R_mono (show -((mv n : Int) - mv h) ≤ (mv h : Int) by omega)
        rw [(R_mv h (by omega)).1] at r
        omega
      obtain ⟨s, hs⟩ : ∃ s, min (sbB h b - 9223372036854775808) (sbB n h - 9223372036854775808) = s := ⟨_, rfl⟩
      have e : slp 1 (sbB h b) (sbB n h) = s + 9223372036854775808 := by
        have s0 := (min_in hs y a1.1 a2.1).2
        rw [slp_n q.1 q.2, lm_1, hs]
        unfold op
        rw [if_neg (Nat.ne_of_gt s0)]
      obtain ⟨sl, s0⟩ := min_in hs y a1.1 a2.1
      clear hs y a1 a2
      have mm := ml_mono (x := s) (x' := h) (f := 4602678819172646912) sl (by omega) s0 (by decide) (by decide)
      rw [mlB_comm s, mlB_comm h, e1] at mm
      obtain ⟨t, ht⟩ : ∃ t, mlB 4602678819172646912 s = t := ⟨_, rfl⟩
      rw [ht] at mm
      have st : sv (t + 9223372036854775808) = -(mv t : Int) := by
        unfold sv
        rw [ng_of_ge (by omega), show mg (t + 9223372036854775808) = t by unfold mg; omega]
        rfl
      have ev : rcV 1 h b n = rn false ((mv h : Int) - mv t) := by
        unfold rcV
        rw [e, half_neg (by omega), ht, pl_fin hl (by omega) (by unfold mg; omega), st, Int.sub_eq_add_neg]
      have g := mv_le.2 mm
      rw [rn_nn (by omega)] at ev
      have r := R_mono (show ((mv (h - 4503599627370496) : Nat) : Int) ≤ (mv h : Int) - mv t by omega)
      rw [(R_mv _ (by omega)).1] at r
      have r2 := R_mono (show (mv h : Int) - mv t ≤ (mv h : Int) by omega)
      rw [(R_mv _ (by omega)).1] at r2
      rw [ev, minB_nn (by omega) (by omega), Nat.min_eq_left (by omega), pos0_nn (by omega), e1]
      omega
    · rw [flat_z hl (slp_z (by simpa using p) (by simpa using m))]
      exact ⟨half, by omega⟩
end Go.Proofs.YtjgbaenihkplpaaDoor

/-
  The depth over an edge at all arguments, as a number; its operations as the program runs them (no walk).
-/
namespace Go.Proofs.YtjgbaenihkplpaaDoor
open Go.RowKit Tf Cu
theorem arI_top (L : Nat) : 1 ≤ arI L ∧ arI L ≤ 9223372036854775807 := by
  have h : cI .even (arQ L) ≤ 9223372036854775807 := by
    unfold cI
    split
    · rename_i c
      unfold cOk at c
      simp only [Bool.and_eq_true, decide_eq_true_eq] at c
      omega
    · decide
  unfold arI
  omega
/-- the area of a cell -/
def arC (n c : Nat) : Int := arI (ArC n c)
theorem arC_in (n c : Nat) : 1 ≤ arC n c ∧ arC n c ≤ 9223372036854775807 := arI_top _
/-- the depth at all arguments -/
def rdAll (n : Nat) (k : Int) (lb lw : Nat) (B : Nat → Nat) (W : Nat → Int) (e : Int) (u : Nat) : Nat :=
  if inR e (12 * n * n : Nat) = true ∧ lb = 6 * n * n ∧ lw = 6 * n * n then rdT n k (arC n) B W (edT n e.toNat) u else 0
theorem half_some {s : Nat} (hs : s < 18446744073709551616) (h : isN s = false) : Ieee.double.mul 4602678819172646912 s = some (mlB 4602678819172646912 s) := by
  have k : Ieee.double.mul 4602678819172646912 s ≠ none := by
    rcases three s with c | c | c
    · rw [mul_d 4602678819172646912 s (by decide) hs (by decide) c]; exact Option.some_ne_none _
    · rw [mul_fi 4602678819172646912 s (by decide) hs (by decide) c, if_neg (by decide)]; exact Option.some_ne_none _
    · rw [h] at c; cases c
  cases e : Ieee.double.mul 4602678819172646912 s with
  | none => exact absurd e k
  | some r => rw [mlB_some e]
theorem half_N {s : Nat} (hs : s < 18446744073709551616) (h : isN s = false) : isN (mlB 4602678819172646912 s) = false ∧ mlB 4602678819172646912 s < 18446744073709551616 := by
  have e := half_some hs h
  exact ⟨(mul_fact e (by decide) hs).2, (mul_fact e (by decide) hs).1⟩
theorem plus_some {h f : Nat} (hh : h < 9218868437227405312) (hf : f < 18446744073709551616) (nf : isN f = false) : Ieee.double.add h f = some (plB h f) := by
  have mh : mg h < 9218868437227405312 := by rw [mg_of_lt (by omega)]; exact hh
  have k : Ieee.double.add h f ≠ none := by
    rcases three f with c | c | c
    · rw [add_d h f (by omega) hf mh c]; exact Option.some_ne_none _
    · rw [add_fi h f hf mh c]; exact Option.some_ne_none _
    · rw [nf] at c; cases c
  cases e : Ieee.double.add h f with
  | none => exact absurd e k
  | some r => rw [plB_some e]
theorem minus_some {x y : Nat} (hx : x < 9218868437227405312) (hy : y < 9218868437227405312) : Ieee.double.sub x y = some (sbB x y) := by
  have mx : mg x < 9218868437227405312 := by rw [mg_of_lt (by omega)]; exact hx
  have my : mg y < 9218868437227405312 := by rw [mg_of_lt (by omega)]; exact hy
  rw [sub_d x y (by omega) (by omega) mx my, sb_nn hx hy, sv_nn (d := x) (by omega), sv_nn (d := y) (by omega), ng_of_lt (x := x) (by omega)]
  rfl
theorem rcV_lt {k : Int} {h hb hd : Nat} (hh : h < 9218868437227405312) : rcV k h hb hd < 18446744073709551616 := by
  have s := half_N (slp_lt k (sbB h hb) (sbB hd h)) (slp_N k _ _)
  have e := plus_some hh s.2 s.1
  unfold rcV
  exact (IsQ.add (IsQ.self (by omega)) (IsQ.self s.2) e).1
theorem sub_isC {l m g : Nat} (hm : m < 18446744073709551616) (e : Ieee.double.sub l m = some g) (hl : l < 18446744073709551616) : IsC g (sbB l m) := by
  have ea : Ieee.double.add l (negB m) = some g := by rw [← sub_add l m hm]; exact e
  exact ⟨(add_facts hl (negB_lt' hm) ea).1, by unfold sbB; rw [addB_some ea]⟩
theorem IsFl.at0 {w : World} {b o len : Nat} {xs : Nat → Nat} (h : IsFl w (some ⟨b, o, none⟩) len xs) {k : Nat} (hk : k < len) : xs k < 18446744073709551616 ∧ b < w.heap.size ∧ w.cell? ⟨b, o + k, none⟩ = some (.float .f64 (xs k)) := by
  obtain ⟨h1, b', o', e, h2, h3⟩ := h k hk
  injection e with e1
  injection e1 with e2 e3
  subst e2 e3
  exact ⟨h1, h2, h3⟩
theorem IsIn.at0 {w : World} {b o len : Nat} {xs : Nat → Int} (h : IsIn w (some ⟨b, o, none⟩) len xs) {k : Nat} (hk : k < len) : xs k ≤ 9223372036854775807 ∧ b < w.heap.size ∧ w.cell? ⟨b, o + k, none⟩ = some (.int .i64 (xs k)) := by
  obtain ⟨h1, b', o', e, h2, h3⟩ := h k hk
  injection e with e1
  injection e1 with e2 e3
  subst e2 e3
  exact ⟨h1.2, h2, h3⟩
theorem maxB_lt {a b : Nat} (ha : a < 18446744073709551616) (hb : b < 18446744073709551616) : maxB a b < 18446744073709551616 := by
  unfold maxB
  split
  · decide
  · split <;> assumption
theorem fgt_flt {u : Nat} (hu : u < 18446744073709551616) (h : fgt u 0 = true) : flt u 0 = false := by
  rw [fgt_ps hu] at h
  rw [flt_ns hu]
  exact ps_ns h
theorem inR_nat {e : Int} {N : Nat} (h : inR e (N : Nat) = true) : ∃ E : Nat, e = (E : Int) ∧ E < N := by
  obtain ⟨h1, h2⟩ := inR_iff.1 h
  obtain ⟨E, rfl⟩ := Int.eq_ofNat_of_zero_le h1
  exact ⟨E, rfl, by omega⟩
theorem rdAll_no {n : Nat} {k : Int} {lb lw : Nat} {B : Nat → Nat} {W : Nat → Int} {e : Int} {u : Nat} (h : ¬ (inR e (12 * n * n : Nat) = true ∧ lb = 6 * n * n ∧ lw = 6 * n * n)) : rdAll n k lb lw B W e u = 0 := by unfold rdAll; rw [if_neg h]
theorem rdAll_eN {n : Nat} {k : Int} {B : Nat → Nat} {W : Nat → Int} {t u : Nat} (hn : 1 ≤ n) (ht : t < 24 * n * n) (hl : isL n t = true) : rdAll n k (6 * n * n) (6 * n * n) B W (eN n t : Nat) u = rdT n k (arC n) B W t u := by
  unfold rdAll
  rw [if_pos ⟨inR_iff.2 (by have := ed_lt hn ht hl; omega), rfl, rfl⟩, Int.toNat_natCast, edT_eN hn ht hl]
theorem IsFl.some0 {w : World} {a0 : Option Addr} {len : Nat} {xs : Nat → Nat} (h : IsFl w a0 len xs) (h0 : 0 < len) : ∃ b o, a0 = some ⟨b, o, none⟩ := by
  obtain ⟨_, b, o, e, _⟩ := h 0 h0
  exact ⟨b, o, e⟩
theorem IsIn.some0 {w : World} {a0 : Option Addr} {len : Nat} {xs : Nat → Int} (h : IsIn w a0 len xs) (h0 : 0 < len) : ∃ b o, a0 = some ⟨b, o, none⟩ := by
  obtain ⟨_, b, o, e, _⟩ := h 0 h0
  exact ⟨b, o, e⟩
theorem six_pos {n : Nat} (hn : 1 ≤ n) : 0 < 6 * n * n := Nat.mul_pos (Nat.mul_pos (by decide) hn) hn
end Go.Proofs.YtjgbaenihkplpaaDoor

/-
  That the program is awake: the walk, of whatever program keeps to the depth over an edge.
-/
namespace Go.Proofs.YtjgbaenihkplpaaDoor
open Go.RowKit Tf Cu
attribute [local go_sem] run_bits run_from raw_feq raw_fne raw_flt raw_fgt run_neg run_store_float
/-- what Depth is to answer, at all arguments -/
def DepthC : Prop := ∀ (n gb : Nat) (k : Int) (pb : Option Addr) (lb cb : Nat) (B : Nat → Nat) (pw : Option Addr) (lw cw : Nat) (Wt : Nat → Int) (pt : Option Addr) (lt ct : Nat) (ps : Option Addr) (ls cs : Nat) (sky st e : Int) (u : Nat) (w : World), (1 ≤ n ∧ n ≤ 32) → GridOf n gb w → IsFl w pb lb B → IsIn w pw lw Wt → u < 18446744073709551616 →
    Calls Tryd.prog 11 #[.pointer (some ⟨gb, 0, none⟩), .int .i64 k, .agg #[.slice pb lb cb, .slice pw lw cw, .slice pt lt ct, .slice ps ls cs, .int .i64 sky, .int .i64 st], .int .i64 e, .float .f64 u] w fun e' w' => e' = .returned (.float .f64 (rdAll n k lb lw B Wt e u)) ∧ Below w.heap.size w w'
theorem ar1 : ∀ c, c < 6 → arI (ArC 1 c) = 1431655765 := by decide +kernel
def dd12 (c : Nat) : Int := if c = 0 then 2 else if c = 3 then 4 else 1
def wt12 (i : Nat) : Int := if i < 6 then dd12 i * arI (ArC 1 i) else 0
theorem wt_num : wt12 0 = 2863311530 ∧ wt12 1 = 1431655765 ∧ wt12 3 = 5726623060 := by
  unfold wt12 dd12
  rw [ar1 0 (by decide), ar1 1 (by decide), ar1 3 (by decide)]
  decide
theorem side0 : isL 1 0 = true ∧ eN 1 0 = 0 ∧ mt 1 0 / 4 = 1 ∧ bkC 1 0 = 3 := by decide +kernel
theorem rd1 (k : Int) (u : Nat) (h : fgt u 0 = true) : rdAll 1 k 6 6 (fun _ => 0) wt12 0 u = rcR k (dpB 2863311530 1431655765) (dpB 5726623060 1431655765) (dpB 1431655765 1431655765) (lvl 0 2863311530 1431655765) 0 0 := by
  have s := side0
  have e := rdAll_eN (n := 1) (k := k) (B := fun _ => 0) (W := wt12) (t := 0) (u := u) (by decide) (by decide) s.1
  rw [s.2.1] at e
  have w := wt_num
  have a0 : arC 1 0 = 1431655765 := ar1 0 (by decide)
  have a1 : arC 1 1 = 1431655765 := ar1 1 (by decide)
  have a3 : arC 1 3 = 1431655765 := ar1 3 (by decide)
  refine Eq.trans e ?_
  rw [rdT_p h]
  unfold sdD ovC
  rw [s.2.2.1, s.2.2.2, show (0 : Nat) / 4 = 0 from rfl, w.1, w.2.1, w.2.2, a0, a1, a3]
theorem rn0 : rcR 0 (dpB 2863311530 1431655765) (dpB 5726623060 1431655765) (dpB 1431655765 1431655765) (lvl 0 2863311530 1431655765) 0 0 = 4611686018427387904 := by decide +kernel
theorem rn1 : rcR 1 (dpB 2863311530 1431655765) (dpB 5726623060 1431655765) (dpB 1431655765 1431655765) (lvl 0 2863311530 1431655765) 0 0 = 4609434218613702656 := by decide +kernel
theorem rn2 : rcR 2 (dpB 2863311530 1431655765) (dpB 5726623060 1431655765) (dpB 1431655765 1431655765) (lvl 0 2863311530 1431655765) 0 0 = 4607182418800017408 := by decide +kernel
theorem rd0 (k : Int) : rdAll 1 k 6 6 (fun _ => 0) wt12 0 0 = 0 := by
  have s := side0
  have e := rdAll_eN (n := 1) (k := k) (B := fun _ => 0) (W := wt12) (t := 0) (u := 0) (by decide) (by decide) s.1
  rw [s.2.1] at e
  refine Eq.trans e ?_
  exact rdT_0 (by decide) (by decide)
theorem rawBits12 (x : Nat) (w : World) : Calls Tryd.prog 12 #[.float .f64 x] w fun e w' => e = .returned (.int .u64 ((x : Nat) : Int)) ∧ w' = w := by
  go_enter Tryd.func12, Tryd.ntmps12
  go_wp2
  go_ret
  exact ⟨rfl, rfl⟩
theorem rowIs.fl {w : World} {b n : Nat} {f : Nat → Nat} (h : w.rowIs b 28 n (fun i => .float .f64 (f i))) (hf : ∀ i, i < n → f i < 18446744073709551616) : IsFl w (some ⟨b, 0, none⟩) n f := fun k hk => ⟨hf k hk, b, 0, rfl, h.lt, by rw [Nat.zero_add]; exact h.cell hk⟩
theorem rowIs.in {w : World} {b n : Nat} {f : Nat → Int} (h : w.rowIs b 2 n (fun i => .int .i64 (f i))) (hf : ∀ i, i < n → -9223372036854775808 ≤ f i ∧ f i ≤ 9223372036854775807) : IsIn w (some ⟨b, 0, none⟩) n f := fun k hk => ⟨hf k hk, b, 0, rfl, h.lt, by rw [Nat.zero_add]; exact h.cell hk⟩
theorem wt_in : ∀ c, c < 6 → -9223372036854775808 ≤ wt12 c ∧ wt12 c ≤ 9223372036854775807 := by
  intro c hc
  unfold wt12
  rw [if_pos hc, ar1 c hc]
  unfold dd12
  split
  · decide
  · split <;> decide
theorem wt_wrap : ∀ c, c < 6 → IntKind.i64.wrap (dd12 c * arI (ArC 1 c)) = dd12 c * arI (ArC 1 c) := by
  intro c hc
  rw [ar1 c hc]
  unfold dd12
  split
  · decide
  · split <;> decide
set_option maxRecDepth 100000 in
set_option maxHeartbeats 8000000 in
theorem awake12_at (DC : DepthC) (w : World) (hF : Fr w) : Calls Tryd.prog 7 #[] w fun e w' => e = .returned (.bool true) ∧ Below w.heap.size w w' := by
  have NW := hid (new_at 1 w (by omega) hF)
  have HD := hid DC
  have RB := hid rawBits12
  have q0 : feq 4611686018427387904 4611686018427387904 = true := by decide
  have q1 : feq 4609434218613702656 4609434218613702656 = true := by decide
  have q2 : feq 4607182418800017408 4607182418800017408 = true := by decide
  clear hF DC
  go_enter Tryd.func7, Tryd.ntmps7
  go_wp2_with fail
  refine NW.out.mono ?_
  rintro e v1 ⟨gb, rfl, a1, -, g1⟩
  have AW1 : Hid (Ab w v1) := a1
  have G1 : Hid (GridOf 1 gb v1) := g1
  clear a1 g1 NW
  have FL := hid (flat_at (dd := dd12) v1 G1.out wt_wrap)
  rw [show dd12 0 = 2 from rfl, show dd12 1 = 1 from rfl, show dd12 2 = 1 from rfl, show dd12 3 = 4 from rfl, show dd12 4 = 1 from rfl, show dd12 5 = 1 from rfl] at FL
  go_wp2_with fail
  refine FL.out.mono ?_
  rintro e v2 ⟨b1, b2, b3, rfl, k2, r1, r2, r3⟩
  have AB : Hid (Ab v1 (v2.alloc (.cells #[.slice (some ⟨b1, 0, none⟩) 6 6, .slice (some ⟨b2, 0, none⟩) 6 6, .slice none 0 0, .slice (some ⟨b3, 0, none⟩) 12 12, .int .i64 0, .int .i64 0] 25))) := (show Ab v1 v2 from k2).alloc _
  have IB : Hid (IsFl (v2.alloc (.cells #[.slice (some ⟨b1, 0, none⟩) 6 6, .slice (some ⟨b2, 0, none⟩) 6 6, .slice none 0 0, .slice (some ⟨b3, 0, none⟩) 12 12, .int .i64 0, .int .i64 0] 25)) (some ⟨b1, 0, none⟩) 6 (fun _ => 0)) := (rowIs.fl (r1.alloc _) (fun _ _ => by decide))
  have IW : Hid (IsIn (v2.alloc (.cells #[.slice (some ⟨b1, 0, none⟩) 6 6, .slice (some ⟨b2, 0, none⟩) 6 6, .slice none 0 0, .slice (some ⟨b3, 0, none⟩) 12 12, .int .i64 0, .int .i64 0] 25)) (some ⟨b2, 0, none⟩) 6 wt12) := rowIs.in (f := wt12) (r2.alloc _) wt_in
  have RS : Hid ((v2.alloc (.cells #[.slice (some ⟨b1, 0, none⟩) 6 6, .slice (some ⟨b2, 0, none⟩) 6 6, .slice none 0 0, .slice (some ⟨b3, 0, none⟩) 12 12, .int .i64 0, .int .i64 0] 25)).heap[v2.heap.size]? = some (.cells #[.slice (some ⟨b1, 0, none⟩) 6 6, .slice (some ⟨b2, 0, none⟩) 6 6, .slice none 0 0, .slice (some ⟨b3, 0, none⟩) 12 12, .int .i64 0, .int .i64 0] 25)) := heap_alloc_new _ _
  have CD : Hid (∀ (k : Int) (u r : Nat), u < 18446744073709551616 → rdAll 1 k 6 6 (fun _ => 0) wt12 0 u = r → ∀ v, Ab (v2.alloc (.cells #[.slice (some ⟨b1, 0, none⟩) 6 6, .slice (some ⟨b2, 0, none⟩) 6 6, .slice none 0 0, .slice (some ⟨b3, 0, none⟩) 12 12, .int .i64 0, .int .i64 0] 25)) v → Calls Tryd.prog 11 #[.pointer (some ⟨gb, 0, none⟩), .int .i64 k, .agg #[.slice (some ⟨b1, 0, none⟩) 6 6, .slice (some ⟨b2, 0, none⟩) 6 6, .slice none 0 0, .slice (some ⟨b3, 0, none⟩) 12 12, .int .i64 0, .int .i64 0], .int .i64 0, .float .f64 u] v fun e' w' => e' = .returned (.float .f64 r) ∧ Below v.heap.size v w') := fun k u r hu hr v hv => by
    have h := HD.out 1 gb k (some ⟨b1, 0, none⟩) 6 6 (fun _ => 0) (some ⟨b2, 0, none⟩) 6 6 wt12 none 0 0 (some ⟨b3, 0, none⟩) 12 12 0 0 0 u v (by omega) (G1.out.to (AB.out.trans hv)) (IB.out.below hv) (IW.out.below hv) hu
    rwa [hr] at h
  clear k2 r1 r2 r3 FL HD IB IW
  have c0 := cell_of_row _ _ 0 _ _ _ RS.out
  have c1 := cell_of_row _ _ 1 _ _ _ RS.out
  have c2 := cell_of_row _ _ 2 _ _ _ RS.out
  have c3 := cell_of_row _ _ 3 _ _ _ RS.out
  have c4 := cell_of_row _ _ 4 _ _ _ RS.out
  have c5 := cell_of_row _ _ 5 _ _ _ RS.out
  go_wp2_with fail
  generalize hV : v2.alloc (.cells #[.slice (some ⟨b1, 0, none⟩) 6 6, .slice (some ⟨b2, 0, none⟩) 6 6, .slice none 0 0, .slice (some ⟨b3, 0, none⟩) 12 12, .int .i64 0, .int .i64 0] 25) = V at *
  clear hV
  refine (CD.out 0 4607182418800017408 4611686018427387904 (by decide) ((rd1 0 _ (by decide)).trans rn0) _ (Ab.refl _)).mono ?_
  rintro e v3 ⟨rfl, k3⟩
  clear c0 c1 c2 c3 c4 c5
  have A3 : Hid (Ab V v3) := k3
  clear k3
  have c0 := cell_of_row _ _ 0 _ _ _ (A3.out.heap RS.out)
  have c1 := cell_of_row _ _ 1 _ _ _ (A3.out.heap RS.out)
  have c2 := cell_of_row _ _ 2 _ _ _ (A3.out.heap RS.out)
  have c3 := cell_of_row _ _ 3 _ _ _ (A3.out.heap RS.out)
  have c4 := cell_of_row _ _ 4 _ _ _ (A3.out.heap RS.out)
  have c5 := cell_of_row _ _ 5 _ _ _ (A3.out.heap RS.out)
  go_wp2_with fail
  refine (CD.out 1 4607182418800017408 4609434218613702656 (by decide) ((rd1 1 _ (by decide)).trans rn1) _ A3.out).mono ?_
  rintro e v4 ⟨rfl, k4⟩
  clear c0 c1 c2 c3 c4 c5
  have A4 : Hid (Ab V v4) := A3.out.call k4
  clear k4
  have c0 := cell_of_row _ _ 0 _ _ _ (A4.out.heap RS.out)
  have c1 := cell_of_row _ _ 1 _ _ _ (A4.out.heap RS.out)
  have c2 := cell_of_row _ _ 2 _ _ _ (A4.out.heap RS.out)
  have c3 := cell_of_row _ _ 3 _ _ _ (A4.out.heap RS.out)
  have c4 := cell_of_row _ _ 4 _ _ _ (A4.out.heap RS.out)
  have c5 := cell_of_row _ _ 5 _ _ _ (A4.out.heap RS.out)
  go_wp2_with fail
  refine (CD.out 2 4598175219545276416 4607182418800017408 (by decide) ((rd1 2 _ (by decide)).trans rn2) _ A4.out).mono ?_
  rintro e v5 ⟨rfl, k5⟩
  clear c0 c1 c2 c3 c4 c5
  have A5 : Hid (Ab V v5) := A4.out.call k5
  clear k5
  have c0 := cell_of_row _ _ 0 _ _ _ (A5.out.heap RS.out)
  have c1 := cell_of_row _ _ 1 _ _ _ (A5.out.heap RS.out)
  have c2 := cell_of_row _ _ 2 _ _ _ (A5.out.heap RS.out)
  have c3 := cell_of_row _ _ 3 _ _ _ (A5.out.heap RS.out)
  have c4 := cell_of_row _ _ 4 _ _ _ (A5.out.heap RS.out)
  have c5 := cell_of_row _ _ 5 _ _ _ (A5.out.heap RS.out)
  go_wp2_with fail
  refine (CD.out 0 0 0 (by decide) (rd0 0) _ A5.out).mono ?_
  rintro e v6 ⟨rfl, k6⟩
  clear c0 c1 c2 c3 c4 c5
  have A6 : Hid (Ab V v6) := A5.out.call k6
  clear k6
  go_wp2_with fail
  refine (RB.out _ _).mono ?_
  rintro e v7 ⟨rfl, hv7⟩
  have hv8 := hv7.symm
  subst hv8
  go_wp2
  go_ret
  exact ⟨rfl, (AW1.out.trans AB.out).trans A6.out⟩
end Go.Proofs.YtjgbaenihkplpaaDoor

/-
  The question's net, and numbers brought within bounds: walks.
-/
namespace Go.Proofs.YtjgbaenihkplpaaDoor
open Go.RowKit Tf Cu
attribute [local go_sem] run_bits run_from raw_feq raw_fne raw_flt raw_fgt run_neg run_store_float
set_option maxHeartbeats 1000000 in
theorem within12_at (x : Int) (n : Nat) (w : World) (hn : 1 ≤ n ∧ n ≤ 12288) : Calls Tryd.prog 9 #[.int .i64 x, .int .i64 n] w fun e w' => e = .returned (.int .i64 (wi9 x n)) ∧ w' = w := by
  obtain ⟨y, hy⟩ : ∃ y, x % 18446744073709551616 = y := ⟨_, rfl⟩
  have y0 : 0 ≤ y ∧ y < 18446744073709551616 := by omega
  obtain ⟨z, hz⟩ : ∃ z, y % (n : Int) = z := ⟨_, rfl⟩
  have z0 : 0 ≤ z ∧ z < n := by rw [← hz]; exact ⟨Int.emod_nonneg _ (by omega), Int.emod_lt_of_pos _ (by omega)⟩
  have hr : ((wi9 x n : Nat) : Int) = z := by unfold wi9; rw [hy, hz]; omega
  rw [hr]
  have n1 : ¬ (n : Int) = 0 := by omega
  have n2 : (n : Int) % 18446744073709551616 = n := by omega
  have e1 : IntKind.u64.wrap x = y := by rw [IntKind.wrap_u64, hy]
  have HZ := hid hz
  have HY := hid hy
  clear hy hz
  have t1 : y.tmod n = z := by rw [Int.tmod_eq_emod_of_nonneg y0.1, HZ.out]
  have n3 : 1 ≤ (n : Int) := by omega
  have n4 : (n : Int) ≤ 12288 := by omega
  clear hn hr
  go_enter Tryd.func9, Tryd.ntmps9
  go_wp2
  go_ret
  exact ⟨rfl, rfl⟩

set_option maxRecDepth 100000 in
set_option maxHeartbeats 4000000 in
theorem net12_no (side lim : Int) (pb pw pt ps : Option Addr) (lb cb lw cw lt ct ls cs : Nat) (sky st : Int) (w : World) (h : ¬ (1 ≤ side ∧ side ≤ 32)) :
    Calls Tryd.prog 8 #[.agg #[.int .i64 side, .int .i64 lim, .slice pb lb cb, .slice pw lw cw, .slice pt lt ct, .slice ps ls cs, .int .i64 sky, .int .i64 st]] w fun e w' => e = .returned (.tuple #[.pointer none, .bool false]) ∧ Below w.heap.size w w' := by
  have A0 : Hid (Ab w (w.alloc (.cells #[.int .i64 side, .int .i64 lim, .slice pb lb cb, .slice pw lw cw, .slice pt lt ct, .slice ps ls cs, .int .i64 sky, .int .i64 st] 27))) := bl1 _ _
  have RO : Hid ((w.alloc (.cells #[.int .i64 side, .int .i64 lim, .slice pb lb cb, .slice pw lw cw, .slice pt lt ct, .slice ps ls cs, .int .i64 sky, .int .i64 st] 27)).heap[w.heap.size]? = some (.cells #[.int .i64 side, .int .i64 lim, .slice pb lb cb, .slice pw lw cw, .slice pt lt ct, .slice ps ls cs, .int .i64 sky, .int .i64 st] 27)) := heap_alloc_new _ _
  have NO := hid (fun v => new_no side v h)
  clear h
  have c0 := cell_of_row _ _ 0 _ _ _ RO.out
  go_enter Tryd.func8, Tryd.ntmps8
  go_wp2_with fail
  refine Calls.mono (NO.out _) ?_
  rintro e v1 ⟨rfl, hv⟩
  have hv2 := hv.symm
  subst hv2
  go_wp2
  go_ret2
  exact ⟨rfl, A0.out⟩
set_option maxRecDepth 100000 in
set_option maxHeartbeats 4000000 in
theorem net12_go (side lim : Int) (pb pw pt ps : Option Addr) (lb cb lw cw lt ct ls cs : Nat) (sky st : Int) (n M : Nat) (q : Bool) (w : World) (hs : side = (n : Int)) (hn : 1 ≤ n ∧ n ≤ 32) (hF : Fr w) (hM : 6 * n * n = M) (hq : (((lb : Int) == (M : Int)) = false ∧ q = false) ∨ (((lb : Int) == (M : Int)) = true ∧ ((lw : Int) == (M : Int)) = q)) :
    Calls Tryd.prog 8 #[.agg #[.int .i64 side, .int .i64 lim, .slice pb lb cb, .slice pw lw cw, .slice pt lt ct, .slice ps ls cs, .int .i64 sky, .int .i64 st]] w fun e w' => ∃ gb, e = .returned (.tuple #[.pointer (some ⟨gb, 0, none⟩), .bool q]) ∧ Below w.heap.size w w' ∧ GridOf n gb w' := by
  subst hs
  have A0 : Hid (Ab w (w.alloc (.cells #[.int .i64 (n : Nat), .int .i64 lim, .slice pb lb cb, .slice pw lw cw, .slice pt lt ct, .slice ps ls cs, .int .i64 sky, .int .i64 st] 27))) := bl1 _ _
  have RO0 : Hid ((w.alloc (.cells #[.int .i64 (n : Nat), .int .i64 lim, .slice pb lb cb, .slice pw lw cw, .slice pt lt ct, .slice ps ls cs, .int .i64 sky, .int .i64 st] 27)).heap[w.heap.size]? = some (.cells #[.int .i64 (n : Nat), .int .i64 lim, .slice pb lb cb, .slice pw lw cw, .slice pt lt ct, .slice ps ls cs, .int .i64 sky, .int .i64 st] 27)) := heap_alloc_new _ _
  have NW := hid (new_at n _ hn (hF.to A0.out))
  have c0 := cell_of_row _ _ 0 _ _ _ RO0.out
  clear hF
  go_enter Tryd.func8, Tryd.ntmps8
  go_wp2_with fail
  refine NW.out.mono ?_
  rintro e W ⟨gb, rfl, a1, -, g1⟩
  have AW : Hid (Ab w W) := A0.out.trans a1
  have RO : Hid (W.heap[w.heap.size]? = some (.cells #[.int .i64 (n : Nat), .int .i64 lim, .slice pb lb cb, .slice pw lw cw, .slice pt lt ct, .slice ps ls cs, .int .i64 sky, .int .i64 st] 27)) := a1.heap RO0.out
  have GG := hid g1
  clear a1 g1 NW RO0 A0 c0
  have CC : Hid (∀ v, Ab W v → Calls Tryd.prog 21 #[.pointer (some ⟨gb, 0, none⟩)] v fun e w' => e = .returned (.int .i64 (M : Nat)) ∧ Below v.heap.size v w') := fun v hv => by
    have h := gCells_at (GG.out.to hv)
    rw [hM] at h
    exact h.mono fun _ _ h => ⟨h.1, by obtain ⟨_, rfl⟩ := h; exact Below.refl _ _⟩
  clear hM
  go_upto_region 4 with fail
  obtain ⟨UU, E, hF1, hF2⟩ := cls W
  have HU := hid hF2
  have HU1 := hid hF1
  have x2 : ∀ u, (E u).cell? ⟨w.heap.size, 2, none⟩ = some (.slice pb lb cb) := fun u => cell_of_row _ _ 2 _ _ _ ((hF1 u).heap RO.out)
  have x3 : ∀ u, (E u).cell? ⟨w.heap.size, 3, none⟩ = some (.slice pw lw cw) := fun u => cell_of_row _ _ 3 _ _ _ ((hF1 u).heap RO.out)
  have DD0 := HU.out _ (Ab.refl W).drew
  clear hF1 hF2
  rcases hq with ⟨q1, rfl⟩ | ⟨q1, q2⟩
  · refine region_cls E (by kernel_rfl) (by kernel_rfl) DD0 ?_
    repeat (go_big_quiet_step (first
      | (with_reducible rfl)
      | (go_at_call 21; exact calls_cls HU HU1 (CC.out _ (HU1.out _)))))
    refine wpQuiet_nil ?_
    intro z hwz
    obtain ⟨u0, hu⟩ := hwz
    have AZ : Hid (Ab W z) := by rw [hu]; exact HU1.out u0
    clear hu u0
    clear HU HU1 DD0 x2 x3
    clear E UU
    go_wp2
    go_ret2
    exact ⟨gb, rfl, AW.out.trans AZ.out, GG.out.to AZ.out⟩
  · refine region_cls E (by kernel_rfl) (by kernel_rfl) DD0 ?_
    repeat (go_big_quiet_step (first
      | (with_reducible rfl)
      | (go_at_call 21; exact calls_cls HU HU1 (CC.out _ (HU1.out _)))))
    refine wpQuiet_nil ?_
    intro z hwz
    obtain ⟨u0, hu⟩ := hwz
    have AZ : Hid (Ab W z) := by rw [hu]; exact HU1.out u0
    clear hu u0
    clear HU HU1 DD0 x2 x3
    clear E UU
    go_wp2
    go_ret2
    exact ⟨gb, rfl, AW.out.trans AZ.out, GG.out.to AZ.out⟩
end Go.Proofs.YtjgbaenihkplpaaDoor

/-
  The depth hangs on the speed's sign alone: the walk, of whatever program keeps to the depth over an edge.
-/
namespace Go.Proofs.YtjgbaenihkplpaaDoor
open Go.RowKit Tf Cu
attribute [local go_sem] run_bits run_from raw_feq raw_fne raw_flt raw_fgt run_neg run_store_float
set_option maxRecDepth 100000 in
set_option maxHeartbeats 4000000 in
theorem signs12_no (side lim : Int) (pb pw pt ps : Option Addr) (lb cb lw cw lt ct ls cs : Nat) (sky st : Int) (e : Int) (u : Nat) (w : World)
    (AWK : Hid (∀ v, Ab w v → Calls Tryd.prog 7 #[] v fun e w' => e = .returned (.bool true) ∧ Below v.heap.size v w'))
    (NT : Hid (∀ v, Ab w v → Calls Tryd.prog 8 #[.agg #[.int .i64 side, .int .i64 lim, .slice pb lb cb, .slice pw lw cw, .slice pt lt ct, .slice ps ls cs, .int .i64 sky, .int .i64 st]] v fun e' w' => ∃ gp, e' = .returned (.tuple #[gp, .bool false]) ∧ Below v.heap.size v w')) :
    Calls Tryd.prog 3 #[.agg #[.int .i64 side, .int .i64 lim, .slice pb lb cb, .slice pw lw cw, .slice pt lt ct, .slice ps ls cs, .int .i64 sky, .int .i64 st], .int .i64 e, .float .f64 u] w fun e w' => e = .returned (.bool true) ∧ Below w.heap.size w w' := by
  have A0 : Hid (Ab w (w.alloc (.cells #[.int .i64 side, .int .i64 lim, .slice pb lb cb, .slice pw lw cw, .slice pt lt ct, .slice ps ls cs, .int .i64 sky, .int .i64 st] 27))) := bl1 _ _
  have RO0 : Hid ((w.alloc (.cells #[.int .i64 side, .int .i64 lim, .slice pb lb cb, .slice pw lw cw, .slice pt lt ct, .slice ps ls cs, .int .i64 sky, .int .i64 st] 27)).heap[w.heap.size]? = some (.cells #[.int .i64 side, .int .i64 lim, .slice pb lb cb, .slice pw lw cw, .slice pt lt ct, .slice ps ls cs, .int .i64 sky, .int .i64 st] 27)) := heap_alloc_new _ _
  go_enter Tryd.func3, Tryd.ntmps3
  go_wp2_with fail
  refine (AWK.out _ A0.out).mono ?_
  rintro e9 v1 ⟨rfl, k1⟩
  have A1 : Hid (Ab w v1) := A0.out.call k1
  have RO1 : Hid (v1.heap[w.heap.size]? = some (.cells #[.int .i64 side, .int .i64 lim, .slice pb lb cb, .slice pw lw cw, .slice pt lt ct, .slice ps ls cs, .int .i64 sky, .int .i64 st] 27)) := Ab.heap k1 RO0.out
  clear k1 RO0 A0
  have c0 := cell_of_row _ _ 0 _ _ _ (RO1.out)
  have c1 := cell_of_row _ _ 1 _ _ _ (RO1.out)
  have c2 := cell_of_row _ _ 2 _ _ _ (RO1.out)
  have c3 := cell_of_row _ _ 3 _ _ _ (RO1.out)
  have c4 := cell_of_row _ _ 4 _ _ _ (RO1.out)
  have c5 := cell_of_row _ _ 5 _ _ _ (RO1.out)
  have c6 := cell_of_row _ _ 6 _ _ _ (RO1.out)
  have c7 := cell_of_row _ _ 7 _ _ _ (RO1.out)
  go_wp2_with fail
  refine (NT.out _ A1.out).mono ?_
  rintro e9 v2 ⟨gp, rfl, k2⟩
  have A2 : Hid (Ab w v2) := A1.out.call k2
  clear k2
  clear c0 c1 c2 c3 c4 c5 c6 c7
  go_wp2
  go_ret
  exact ⟨rfl, A2.out⟩
set_option maxRecDepth 100000 in
set_option maxHeartbeats 4000000 in
theorem signs12_pos (side lim : Int) (pb pw pt ps : Option Addr) (lb cb lw cw lt ct ls cs : Nat) (sky st : Int) (e : Int) (u d n N K : Nat) (w : World) (p : fgt u 0 = true) (q : flt u 0 = false) (c : Bool) (hc : fgt d 0 = c) (hz : Hid (c = false → d = 0))
    (AWK : Hid (∀ v, Ab w v → Calls Tryd.prog 7 #[] v fun e w' => e = .returned (.bool true) ∧ Below v.heap.size v w'))
    (NT : Hid (∀ v, Ab w v → Calls Tryd.prog 8 #[.agg #[.int .i64 side, .int .i64 lim, .slice pb lb cb, .slice pw lw cw, .slice pt lt ct, .slice ps ls cs, .int .i64 sky, .int .i64 st]] v fun e' w' => ∃ gb, e' = .returned (.tuple #[.pointer (some ⟨gb, 0, none⟩), .bool true]) ∧ Below v.heap.size v w' ∧ GridOf n gb w'))
    (CE : Hid (∀ gb v, GridOf n gb v → Calls Tryd.prog 10 #[.pointer (some ⟨gb, 0, none⟩)] v fun e w' => e = .returned (.int .i64 (N : Nat)) ∧ Below v.heap.size v w'))
    (CW : Hid (∀ v : World, Calls Tryd.prog 9 #[.int .i64 e, .int .i64 (N : Nat)] v fun e w' => e = .returned (.int .i64 (K : Nat)) ∧ Below v.heap.size v w'))
    (CD : Hid (∀ gb v, GridOf n gb v → Ab w v → Calls Tryd.prog 11 #[.pointer (some ⟨gb, 0, none⟩), .int .i64 lim, .agg #[.slice pb lb cb, .slice pw lw cw, .slice pt lt ct, .slice ps ls cs, .int .i64 sky, .int .i64 st], .int .i64 (K : Nat), .float .f64 u] v fun e w' => e = .returned (.float .f64 d) ∧ Below v.heap.size v w'))
    (CO : Hid (∀ gb v, GridOf n gb v → Ab w v → Calls Tryd.prog 11 #[.pointer (some ⟨gb, 0, none⟩), .int .i64 lim, .agg #[.slice pb lb cb, .slice pw lw cw, .slice pt lt ct, .slice ps ls cs, .int .i64 sky, .int .i64 st], .int .i64 (K : Nat), .float .f64 4607182418800017408] v fun e w' => e = .returned (.float .f64 d) ∧ Below v.heap.size v w')) :
    Calls Tryd.prog 3 #[.agg #[.int .i64 side, .int .i64 lim, .slice pb lb cb, .slice pw lw cw, .slice pt lt ct, .slice ps ls cs, .int .i64 sky, .int .i64 st], .int .i64 e, .float .f64 u] w fun e w' => e = .returned (.bool true) ∧ Below w.heap.size w w' := by
  have SS : Hid (∀ (x : Nat) (v : World), Calls Tryd.prog 13 #[.float .f64 x, .float .f64 x] v fun e w' => e = .returned (.bool true) ∧ w' = v) := fun x v => by
    have h := rawSame_any x x v
    rwa [show sameB x x = true by unfold sameB; exact decide_eq_true rfl] at h
  have RB := hid rawBits12
  have f1 : feq 4607182418800017408 0 = false := by decide
  have A0 : Hid (Ab w (w.alloc (.cells #[.int .i64 side, .int .i64 lim, .slice pb lb cb, .slice pw lw cw, .slice pt lt ct, .slice ps ls cs, .int .i64 sky, .int .i64 st] 27))) := bl1 _ _
  have RO0 : Hid ((w.alloc (.cells #[.int .i64 side, .int .i64 lim, .slice pb lb cb, .slice pw lw cw, .slice pt lt ct, .slice ps ls cs, .int .i64 sky, .int .i64 st] 27)).heap[w.heap.size]? = some (.cells #[.int .i64 side, .int .i64 lim, .slice pb lb cb, .slice pw lw cw, .slice pt lt ct, .slice ps ls cs, .int .i64 sky, .int .i64 st] 27)) := heap_alloc_new _ _
  go_enter Tryd.func3, Tryd.ntmps3
  go_wp2_with fail
  refine (AWK.out _ A0.out).mono ?_
  rintro e9 v1 ⟨rfl, k1⟩
  have A1 : Hid (Ab w v1) := A0.out.call k1
  have RO1 : Hid (v1.heap[w.heap.size]? = some (.cells #[.int .i64 side, .int .i64 lim, .slice pb lb cb, .slice pw lw cw, .slice pt lt ct, .slice ps ls cs, .int .i64 sky, .int .i64 st] 27)) := Ab.heap k1 RO0.out
  clear k1 RO0 A0
  have c0 := cell_of_row _ _ 0 _ _ _ (RO1.out)
  have c1 := cell_of_row _ _ 1 _ _ _ (RO1.out)
  have c2 := cell_of_row _ _ 2 _ _ _ (RO1.out)
  have c3 := cell_of_row _ _ 3 _ _ _ (RO1.out)
  have c4 := cell_of_row _ _ 4 _ _ _ (RO1.out)
  have c5 := cell_of_row _ _ 5 _ _ _ (RO1.out)
  have c6 := cell_of_row _ _ 6 _ _ _ (RO1.out)
  have c7 := cell_of_row _ _ 7 _ _ _ (RO1.out)
  go_wp2_with fail
  refine (NT.out _ A1.out).mono ?_
  rintro e9 W ⟨gb, rfl, k2, g2⟩
  have AW : Hid (Ab w W) := A1.out.call k2
  have RO : Hid (W.heap[w.heap.size]? = some (.cells #[.int .i64 side, .int .i64 lim, .slice pb lb cb, .slice pw lw cw, .slice pt lt ct, .slice ps ls cs, .int .i64 sky, .int .i64 st] 27)) := Ab.heap k2 RO1.out
  have GG := hid g2
  clear k2 g2 RO1 A1
  clear c0 c1 c2 c3 c4 c5 c6 c7
  go_wp2_with fail
  refine (CE.out _ _ GG.out).mono ?_
  rintro e9 v3 ⟨rfl, k3⟩
  have A3 : Hid (Ab W v3) := k3
  clear k3
  go_wp2_with fail
  refine (CW.out _).mono ?_
  rintro e9 v4 ⟨rfl, k4⟩
  have A4 : Hid (Ab W v4) := A3.out.call k4
  clear k4 A3
  have c0 := cell_of_row _ _ 0 _ _ _ (A4.out.heap RO.out)
  have c1 := cell_of_row _ _ 1 _ _ _ (A4.out.heap RO.out)
  have c2 := cell_of_row _ _ 2 _ _ _ (A4.out.heap RO.out)
  have c3 := cell_of_row _ _ 3 _ _ _ (A4.out.heap RO.out)
  have c4 := cell_of_row _ _ 4 _ _ _ (A4.out.heap RO.out)
  have c5 := cell_of_row _ _ 5 _ _ _ (A4.out.heap RO.out)
  have c6 := cell_of_row _ _ 6 _ _ _ (A4.out.heap RO.out)
  have c7 := cell_of_row _ _ 7 _ _ _ (A4.out.heap RO.out)
  go_wp2_with fail
  refine (CD.out _ _ (GG.out.to A4.out) (AW.out.trans A4.out)).mono ?_
  rintro e9 v5 ⟨rfl, k5⟩
  have A5 : Hid (Ab W v5) := A4.out.call k5
  clear k5 A4
  clear c0 c1 c2 c3 c4 c5 c6 c7
  have c0 := cell_of_row _ _ 0 _ _ _ (A5.out.heap RO.out)
  have c1 := cell_of_row _ _ 1 _ _ _ (A5.out.heap RO.out)
  have c2 := cell_of_row _ _ 2 _ _ _ (A5.out.heap RO.out)
  have c3 := cell_of_row _ _ 3 _ _ _ (A5.out.heap RO.out)
  have c4 := cell_of_row _ _ 4 _ _ _ (A5.out.heap RO.out)
  have c5 := cell_of_row _ _ 5 _ _ _ (A5.out.heap RO.out)
  have c6 := cell_of_row _ _ 6 _ _ _ (A5.out.heap RO.out)
  have c7 := cell_of_row _ _ 7 _ _ _ (A5.out.heap RO.out)
  cases c
  · have d0 := hz.out rfl
    subst d0
    go_wp2_with fail
    refine (RB.out _ _).mono ?_
    rintro e9 v8 ⟨rfl, h9⟩
    have h10 := h9.symm
    subst h10
    go_wp2_with fail
    refine (CO.out _ _ (GG.out.to A5.out) (AW.out.trans A5.out)).mono ?_
    rintro e9 v6 ⟨rfl, k6⟩
    have A6 : Hid (Ab W v6) := A5.out.call k6
    clear k6 A5
    go_wp2_with fail
    refine (SS.out _ _).mono ?_
    rintro e9 v7 ⟨rfl, h7⟩
    have h8 := h7.symm
    subst h8
    go_wp2
    go_ret
    exact ⟨rfl, AW.out.trans A6.out⟩
  · clear hz
    go_wp2_with fail
    refine (CO.out _ _ (GG.out.to A5.out) (AW.out.trans A5.out)).mono ?_
    rintro e9 v6 ⟨rfl, k6⟩
    have A6 : Hid (Ab W v6) := A5.out.call k6
    clear k6 A5
    go_wp2_with fail
    refine (SS.out _ _).mono ?_
    rintro e9 v7 ⟨rfl, h7⟩
    have h8 := h7.symm
    subst h8
    go_wp2
    go_ret
    exact ⟨rfl, AW.out.trans A6.out⟩
set_option maxRecDepth 100000 in
set_option maxHeartbeats 4000000 in
theorem signs12_neg (side lim : Int) (pb pw pt ps : Option Addr) (lb cb lw cw lt ct ls cs : Nat) (sky st : Int) (e : Int) (u d n N K : Nat) (w : World) (p : fgt u 0 = false) (q : flt u 0 = true) (c : Bool) (hc : fgt d 0 = c) (hz : Hid (c = false → d = 0))
    (AWK : Hid (∀ v, Ab w v → Calls Tryd.prog 7 #[] v fun e w' => e = .returned (.bool true) ∧ Below v.heap.size v w'))
    (NT : Hid (∀ v, Ab w v → Calls Tryd.prog 8 #[.agg #[.int .i64 side, .int .i64 lim, .slice pb lb cb, .slice pw lw cw, .slice pt lt ct, .slice ps ls cs, .int .i64 sky, .int .i64 st]] v fun e' w' => ∃ gb, e' = .returned (.tuple #[.pointer (some ⟨gb, 0, none⟩), .bool true]) ∧ Below v.heap.size v w' ∧ GridOf n gb w'))
    (CE : Hid (∀ gb v, GridOf n gb v → Calls Tryd.prog 10 #[.pointer (some ⟨gb, 0, none⟩)] v fun e w' => e = .returned (.int .i64 (N : Nat)) ∧ Below v.heap.size v w'))
    (CW : Hid (∀ v : World, Calls Tryd.prog 9 #[.int .i64 e, .int .i64 (N : Nat)] v fun e w' => e = .returned (.int .i64 (K : Nat)) ∧ Below v.heap.size v w'))
    (CD : Hid (∀ gb v, GridOf n gb v → Ab w v → Calls Tryd.prog 11 #[.pointer (some ⟨gb, 0, none⟩), .int .i64 lim, .agg #[.slice pb lb cb, .slice pw lw cw, .slice pt lt ct, .slice ps ls cs, .int .i64 sky, .int .i64 st], .int .i64 (K : Nat), .float .f64 u] v fun e w' => e = .returned (.float .f64 d) ∧ Below v.heap.size v w'))
    (CO : Hid (∀ gb v, GridOf n gb v → Ab w v → Calls Tryd.prog 11 #[.pointer (some ⟨gb, 0, none⟩), .int .i64 lim, .agg #[.slice pb lb cb, .slice pw lw cw, .slice pt lt ct, .slice ps ls cs, .int .i64 sky, .int .i64 st], .int .i64 (K : Nat), .float .f64 13830554455654793216] v fun e w' => e = .returned (.float .f64 d) ∧ Below v.heap.size v w')) :
    Calls Tryd.prog 3 #[.agg #[.int .i64 side, .int .i64 lim, .slice pb lb cb, .slice pw lw cw, .slice pt lt ct, .slice ps ls cs, .int .i64 sky, .int .i64 st], .int .i64 e, .float .f64 u] w fun e w' => e = .returned (.bool true) ∧ Below w.heap.size w w' := by
  have SS : Hid (∀ (x : Nat) (v : World), Calls Tryd.prog 13 #[.float .f64 x, .float .f64 x] v fun e w' => e = .returned (.bool true) ∧ w' = v) := fun x v => by
    have h := rawSame_any x x v
    rwa [show sameB x x = true by unfold sameB; exact decide_eq_true rfl] at h
  have RB := hid rawBits12
  have f1 : feq 13830554455654793216 0 = false := by decide
  have A0 : Hid (Ab w (w.alloc (.cells #[.int .i64 side, .int .i64 lim, .slice pb lb cb, .slice pw lw cw, .slice pt lt ct, .slice ps ls cs, .int .i64 sky, .int .i64 st] 27))) := bl1 _ _
  have RO0 : Hid ((w.alloc (.cells #[.int .i64 side, .int .i64 lim, .slice pb lb cb, .slice pw lw cw, .slice pt lt ct, .slice ps ls cs, .int .i64 sky, .int .i64 st] 27)).heap[w.heap.size]? = some (.cells #[.int .i64 side, .int .i64 lim, .slice pb lb cb, .slice pw lw cw, .slice pt lt ct, .slice ps ls cs, .int .i64 sky, .int .i64 st] 27)) := heap_alloc_new _ _
  go_enter Tryd.func3, Tryd.ntmps3
  go_wp2_with fail
  refine (AWK.out _ A0.out).mono ?_
  rintro e9 v1 ⟨rfl, k1⟩
  have A1 : Hid (Ab w v1) := A0.out.call k1
  have RO1 : Hid (v1.heap[w.heap.size]? = some (.cells #[.int .i64 side, .int .i64 lim, .slice pb lb cb, .slice pw lw cw, .slice pt lt ct, .slice ps ls cs, .int .i64 sky, .int .i64 st] 27)) := Ab.heap k1 RO0.out
  clear k1 RO0 A0
  have c0 := cell_of_row _ _ 0 _ _ _ (RO1.out)
  have c1 := cell_of_row _ _ 1 _ _ _ (RO1.out)
  have c2 := cell_of_row _ _ 2 _ _ _ (RO1.out)
  have c3 := cell_of_row _ _ 3 _ _ _ (RO1.out)
  have c4 := cell_of_row _ _ 4 _ _ _ (RO1.out)
  have c5 := cell_of_row _ _ 5 _ _ _ (RO1.out)
  have c6 := cell_of_row _ _ 6 _ _ _ (RO1.out)
  have c7 := cell_of_row _ _ 7 _ _ _ (RO1.out)
  go_wp2_with fail
  refine (NT.out _ A1.out).mono ?_
  rintro e9 W ⟨gb, rfl, k2, g2⟩
  have AW : Hid (Ab w W) := A1.out.call k2
  have RO : Hid (W.heap[w.heap.size]? = some (.cells #[.int .i64 side, .int .i64 lim, .slice pb lb cb, .slice pw lw cw, .slice pt lt ct, .slice ps ls cs, .int .i64 sky, .int .i64 st] 27)) := Ab.heap k2 RO1.out
  have GG := hid g2
  clear k2 g2 RO1 A1
  clear c0 c1 c2 c3 c4 c5 c6 c7
  go_wp2_with fail
  refine (CE.out _ _ GG.out).mono ?_
  rintro e9 v3 ⟨rfl, k3⟩
  have A3 : Hid (Ab W v3) := k3
  clear k3
  go_wp2_with fail
  refine (CW.out _).mono ?_
  rintro e9 v4 ⟨rfl, k4⟩
  have A4 : Hid (Ab W v4) := A3.out.call k4
  clear k4 A3
  have c0 := cell_of_row _ _ 0 _ _ _ (A4.out.heap RO.out)
  have c1 := cell_of_row _ _ 1 _ _ _ (A4.out.heap RO.out)
  have c2 := cell_of_row _ _ 2 _ _ _ (A4.out.heap RO.out)
  have c3 := cell_of_row _ _ 3 _ _ _ (A4.out.heap RO.out)
  have c4 := cell_of_row _ _ 4 _ _ _ (A4.out.heap RO.out)
  have c5 := cell_of_row _ _ 5 _ _ _ (A4.out.heap RO.out)
  have c6 := cell_of_row _ _ 6 _ _ _ (A4.out.heap RO.out)
  have c7 := cell_of_row _ _ 7 _ _ _ (A4.out.heap RO.out)
  go_wp2_with fail
  refine (CD.out _ _ (GG.out.to A4.out) (AW.out.trans A4.out)).mono ?_
  rintro e9 v5 ⟨rfl, k5⟩
  have A5 : Hid (Ab W v5) := A4.out.call k5
  clear k5 A4
  clear c0 c1 c2 c3 c4 c5 c6 c7
  have c0 := cell_of_row _ _ 0 _ _ _ (A5.out.heap RO.out)
  have c1 := cell_of_row _ _ 1 _ _ _ (A5.out.heap RO.out)
  have c2 := cell_of_row _ _ 2 _ _ _ (A5.out.heap RO.out)
  have c3 := cell_of_row _ _ 3 _ _ _ (A5.out.heap RO.out)
  have c4 := cell_of_row _ _ 4 _ _ _ (A5.out.heap RO.out)
  have c5 := cell_of_row _ _ 5 _ _ _ (A5.out.heap RO.out)
  have c6 := cell_of_row _ _ 6 _ _ _ (A5.out.heap RO.out)
  have c7 := cell_of_row _ _ 7 _ _ _ (A5.out.heap RO.out)
  cases c
  · have d0 := hz.out rfl
    subst d0
    go_wp2_with fail
    refine (RB.out _ _).mono ?_
    rintro e9 v8 ⟨rfl, h9⟩
    have h10 := h9.symm
    subst h10
    go_wp2_with fail
    refine (CO.out _ _ (GG.out.to A5.out) (AW.out.trans A5.out)).mono ?_
    rintro e9 v6 ⟨rfl, k6⟩
    have A6 : Hid (Ab W v6) := A5.out.call k6
    clear k6 A5
    go_wp2_with fail
    refine (SS.out _ _).mono ?_
    rintro e9 v7 ⟨rfl, h7⟩
    have h8 := h7.symm
    subst h8
    go_wp2
    go_ret
    exact ⟨rfl, AW.out.trans A6.out⟩
  · clear hz
    go_wp2_with fail
    refine (CO.out _ _ (GG.out.to A5.out) (AW.out.trans A5.out)).mono ?_
    rintro e9 v6 ⟨rfl, k6⟩
    have A6 : Hid (Ab W v6) := A5.out.call k6
    clear k6 A5
    go_wp2_with fail
    refine (SS.out _ _).mono ?_
    rintro e9 v7 ⟨rfl, h7⟩
    have h8 := h7.symm
    subst h8
    go_wp2
    go_ret
    exact ⟨rfl, AW.out.trans A6.out⟩
set_option maxRecDepth 100000 in
set_option maxHeartbeats 4000000 in
theorem signs12_nil (side lim : Int) (pb pw pt ps : Option Addr) (lb cb lw cw lt ct ls cs : Nat) (sky st : Int) (e : Int) (u d n N K : Nat) (w : World) (p : fgt u 0 = false) (q : flt u 0 = false) (hd : d = 0)
    (AWK : Hid (∀ v, Ab w v → Calls Tryd.prog 7 #[] v fun e w' => e = .returned (.bool true) ∧ Below v.heap.size v w'))
    (NT : Hid (∀ v, Ab w v → Calls Tryd.prog 8 #[.agg #[.int .i64 side, .int .i64 lim, .slice pb lb cb, .slice pw lw cw, .slice pt lt ct, .slice ps ls cs, .int .i64 sky, .int .i64 st]] v fun e' w' => ∃ gb, e' = .returned (.tuple #[.pointer (some ⟨gb, 0, none⟩), .bool true]) ∧ Below v.heap.size v w' ∧ GridOf n gb w'))
    (CE : Hid (∀ gb v, GridOf n gb v → Calls Tryd.prog 10 #[.pointer (some ⟨gb, 0, none⟩)] v fun e w' => e = .returned (.int .i64 (N : Nat)) ∧ Below v.heap.size v w'))
    (CW : Hid (∀ v : World, Calls Tryd.prog 9 #[.int .i64 e, .int .i64 (N : Nat)] v fun e w' => e = .returned (.int .i64 (K : Nat)) ∧ Below v.heap.size v w'))
    (CD : Hid (∀ gb v, GridOf n gb v → Ab w v → Calls Tryd.prog 11 #[.pointer (some ⟨gb, 0, none⟩), .int .i64 lim, .agg #[.slice pb lb cb, .slice pw lw cw, .slice pt lt ct, .slice ps ls cs, .int .i64 sky, .int .i64 st], .int .i64 (K : Nat), .float .f64 u] v fun e w' => e = .returned (.float .f64 d) ∧ Below v.heap.size v w'))
    (CO : Hid (∀ gb v, GridOf n gb v → Ab w v → Calls Tryd.prog 11 #[.pointer (some ⟨gb, 0, none⟩), .int .i64 lim, .agg #[.slice pb lb cb, .slice pw lw cw, .slice pt lt ct, .slice ps ls cs, .int .i64 sky, .int .i64 st], .int .i64 (K : Nat), .float .f64 0] v fun e w' => e = .returned (.float .f64 d) ∧ Below v.heap.size v w')) :
    Calls Tryd.prog 3 #[.agg #[.int .i64 side, .int .i64 lim, .slice pb lb cb, .slice pw lw cw, .slice pt lt ct, .slice ps ls cs, .int .i64 sky, .int .i64 st], .int .i64 e, .float .f64 u] w fun e w' => e = .returned (.bool true) ∧ Below w.heap.size w w' := by
  have SS : Hid (∀ (x : Nat) (v : World), Calls Tryd.prog 13 #[.float .f64 x, .float .f64 x] v fun e w' => e = .returned (.bool true) ∧ w' = v) := fun x v => by
    have h := rawSame_any x x v
    rwa [show sameB x x = true by unfold sameB; exact decide_eq_true rfl] at h
  have RB := hid rawBits12
  subst hd
  have f0 : fgt 0 0 = false := by decide
  have f1 : feq 0 0 = true := by decide
  have A0 : Hid (Ab w (w.alloc (.cells #[.int .i64 side, .int .i64 lim, .slice pb lb cb, .slice pw lw cw, .slice pt lt ct, .slice ps ls cs, .int .i64 sky, .int .i64 st] 27))) := bl1 _ _
  have RO0 : Hid ((w.alloc (.cells #[.int .i64 side, .int .i64 lim, .slice pb lb cb, .slice pw lw cw, .slice pt lt ct, .slice ps ls cs, .int .i64 sky, .int .i64 st] 27)).heap[w.heap.size]? = some (.cells #[.int .i64 side, .int .i64 lim, .slice pb lb cb, .slice pw lw cw, .slice pt lt ct, .slice ps ls cs, .int .i64 sky, .int .i64 st] 27)) := heap_alloc_new _ _
  go_enter Tryd.func3, Tryd.ntmps3
  go_wp2_with fail
  refine (AWK.out _ A0.out).mono ?_
  rintro e9 v1 ⟨rfl, k1⟩
  have A1 : Hid (Ab w v1) := A0.out.call k1
  have RO1 : Hid (v1.heap[w.heap.size]? = some (.cells #[.int .i64 side, .int .i64 lim, .slice pb lb cb, .slice pw lw cw, .slice pt lt ct, .slice ps ls cs, .int .i64 sky, .int .i64 st] 27)) := Ab.heap k1 RO0.out
  clear k1 RO0 A0
  have c0 := cell_of_row _ _ 0 _ _ _ (RO1.out)
  have c1 := cell_of_row _ _ 1 _ _ _ (RO1.out)
  have c2 := cell_of_row _ _ 2 _ _ _ (RO1.out)
  have c3 := cell_of_row _ _ 3 _ _ _ (RO1.out)
  have c4 := cell_of_row _ _ 4 _ _ _ (RO1.out)
  have c5 := cell_of_row _ _ 5 _ _ _ (RO1.out)
  have c6 := cell_of_row _ _ 6 _ _ _ (RO1.out)
  have c7 := cell_of_row _ _ 7 _ _ _ (RO1.out)
  go_wp2_with fail
  refine (NT.out _ A1.out).mono ?_
  rintro e9 W ⟨gb, rfl, k2, g2⟩
  have AW : Hid (Ab w W) := A1.out.call k2
  have RO : Hid (W.heap[w.heap.size]? = some (.cells #[.int .i64 side, .int .i64 lim, .slice pb lb cb, .slice pw lw cw, .slice pt lt ct, .slice ps ls cs, .int .i64 sky, .int .i64 st] 27)) := Ab.heap k2 RO1.out
  have GG := hid g2
  clear k2 g2 RO1 A1
  clear c0 c1 c2 c3 c4 c5 c6 c7
  go_wp2_with fail
  refine (CE.out _ _ GG.out).mono ?_
  rintro e9 v3 ⟨rfl, k3⟩
  have A3 : Hid (Ab W v3) := k3
  clear k3
  go_wp2_with fail
  refine (CW.out _).mono ?_
  rintro e9 v4 ⟨rfl, k4⟩
  have A4 : Hid (Ab W v4) := A3.out.call k4
  clear k4 A3
  have c0 := cell_of_row _ _ 0 _ _ _ (A4.out.heap RO.out)
  have c1 := cell_of_row _ _ 1 _ _ _ (A4.out.heap RO.out)
  have c2 := cell_of_row _ _ 2 _ _ _ (A4.out.heap RO.out)
  have c3 := cell_of_row _ _ 3 _ _ _ (A4.out.heap RO.out)
  have c4 := cell_of_row _ _ 4 _ _ _ (A4.out.heap RO.out)
  have c5 := cell_of_row _ _ 5 _ _ _ (A4.out.heap RO.out)
  have c6 := cell_of_row _ _ 6 _ _ _ (A4.out.heap RO.out)
  have c7 := cell_of_row _ _ 7 _ _ _ (A4.out.heap RO.out)
  go_wp2_with fail
  refine (CD.out _ _ (GG.out.to A4.out) (AW.out.trans A4.out)).mono ?_
  rintro e9 v5 ⟨rfl, k5⟩
  have A5 : Hid (Ab W v5) := A4.out.call k5
  clear k5 A4
  clear c0 c1 c2 c3 c4 c5 c6 c7
  have c0 := cell_of_row _ _ 0 _ _ _ (A5.out.heap RO.out)
  have c1 := cell_of_row _ _ 1 _ _ _ (A5.out.heap RO.out)
  have c2 := cell_of_row _ _ 2 _ _ _ (A5.out.heap RO.out)
  have c3 := cell_of_row _ _ 3 _ _ _ (A5.out.heap RO.out)
  have c4 := cell_of_row _ _ 4 _ _ _ (A5.out.heap RO.out)
  have c5 := cell_of_row _ _ 5 _ _ _ (A5.out.heap RO.out)
  have c6 := cell_of_row _ _ 6 _ _ _ (A5.out.heap RO.out)
  have c7 := cell_of_row _ _ 7 _ _ _ (A5.out.heap RO.out)
  go_wp2_with fail
  refine (RB.out _ _).mono ?_
  rintro e9 v8 ⟨rfl, h9⟩
  have h10 := h9.symm
  subst h10
  go_wp2_with fail
  refine (CO.out _ _ (GG.out.to A5.out) (AW.out.trans A5.out)).mono ?_
  rintro e9 v6 ⟨rfl, k6⟩
  have A6 : Hid (Ab W v6) := A5.out.call k6
  clear k6 A5
  go_wp2_with fail
  refine (SS.out _ _).mono ?_
  rintro e9 v7 ⟨rfl, h7⟩
  have h8 := h7.symm
  subst h8
  go_wp2_with fail
  refine (RB.out _ _).mono ?_
  rintro e9 v8 ⟨rfl, h9⟩
  have h10 := h9.symm
  subst h10
  go_wp2
  go_ret
  exact ⟨rfl, AW.out.trans A6.out⟩
end Go.Proofs.YtjgbaenihkplpaaDoor

/-
  Whether the question's net is there, and fits; numbers of edges.
-/
namespace Go.Proofs.YtjgbaenihkplpaaDoor
open Go.RowKit Tf Cu
theorem net12_cases (side lim : Int) (pb pw pt ps : Option Addr) (lb cb lw cw lt ct ls cs : Nat) (sky st : Int) (w : World) (hF : Fr w) :
    (∃ n : Nat, (1 ≤ n ∧ n ≤ 32) ∧ side = (n : Int) ∧ lb = 6 * n * n ∧ lw = 6 * n * n ∧ Hid (∀ v, Ab w v → Calls Tryd.prog 8 #[.agg #[.int .i64 side, .int .i64 lim, .slice pb lb cb, .slice pw lw cw, .slice pt lt ct, .slice ps ls cs, .int .i64 sky, .int .i64 st]] v fun e' w' => ∃ gb, e' = .returned (.tuple #[.pointer (some ⟨gb, 0, none⟩), .bool true]) ∧ Below v.heap.size v w' ∧ GridOf n gb w')) ∨
    Hid (∀ v, Ab w v → Calls Tryd.prog 8 #[.agg #[.int .i64 side, .int .i64 lim, .slice pb lb cb, .slice pw lw cw, .slice pt lt ct, .slice ps ls cs, .int .i64 sky, .int .i64 st]] v fun e' w' => ∃ gp, e' = .returned (.tuple #[gp, .bool false]) ∧ Below v.heap.size v w') := by
  by_cases h : 1 ≤ side ∧ side ≤ 32
  · obtain ⟨n, rfl⟩ := Int.eq_ofNat_of_zero_le (show 0 ≤ side by omega)
    have hn : 1 ≤ n ∧ n ≤ 32 := by omega
    by_cases c1 : lb = 6 * n * n
    · by_cases c2 : lw = 6 * n * n
      · exact .inl ⟨n, hn, rfl, c1, c2, fun v hv => net12_go n lim pb pw pt ps lb cb lw cw lt ct ls cs sky st n (6 * n * n) true v rfl hn (hF.to hv) rfl (.inr ⟨by rw [c1]; simp, by rw [c2]; simp⟩)⟩
      · refine .inr fun v hv => (net12_go n lim pb pw pt ps lb cb lw cw lt ct ls cs sky st n (6 * n * n) false v rfl hn (hF.to hv) rfl (.inr ⟨by rw [c1]; simp, by rw [beq_eq_false_iff_ne]; omega⟩)).mono ?_
        rintro e' w' ⟨gb, rfl, b, -⟩
        exact ⟨_, rfl, b⟩
    · refine .inr fun v hv => (net12_go n lim pb pw pt ps lb cb lw cw lt ct ls cs sky st n (6 * n * n) false v rfl hn (hF.to hv) rfl (.inl ⟨by rw [beq_eq_false_iff_ne]; omega, rfl⟩)).mono ?_
      rintro e' w' ⟨gb, rfl, b, -⟩
      exact ⟨_, rfl, b⟩
  · refine .inr fun v _ => (net12_no side lim pb pw pt ps lb cb lw cw lt ct ls cs sky st v h).mono ?_
    rintro e' w' ⟨rfl, b⟩
    exact ⟨_, rfl, b⟩
theorem rdAll_sgn {n : Nat} {k : Int} {lb lw : Nat} {B : Nat → Nat} {W : Nat → Int} {e : Int} {u v : Nat} (h1 : fgt u 0 = fgt v 0) (h2 : flt u 0 = flt v 0) : rdAll n k lb lw B W e u = rdAll n k lb lw B W e v := by
  unfold rdAll rdT
  rw [h1, h2]
theorem rdAll_or (n : Nat) (k : Int) (lb lw : Nat) (B : Nat → Nat) (W : Nat → Int) (e : Int) (u : Nat) : fgt (rdAll n k lb lw B W e u) 0 = true ∨ rdAll n k lb lw B W e u = 0 := by
  unfold rdAll
  split
  · exact rdT_or _ _ _ _ _ _ _
  · exact .inr rfl
theorem rdAll_0 {n : Nat} {k : Int} {lb lw : Nat} {B : Nat → Nat} {W : Nat → Int} {e : Int} {u : Nat} (h1 : fgt u 0 = false) (h2 : flt u 0 = false) : rdAll n k lb lw B W e u = 0 := by
  unfold rdAll
  split
  · exact rdT_0 h1 h2
  · rfl
theorem edges_n {n : Nat} (hn : 1 ≤ n ∧ n ≤ 32) : 1 ≤ 12 * n * n ∧ 12 * n * n ≤ 12288 := by
  have h := Nat.mul_le_mul hn.2 hn.2
  have h2 := Nat.mul_le_mul hn.1 hn.1
  rw [Nat.mul_assoc]
  omega
theorem signs12_at (DC : DepthC) (side lim : Int) {pb pw pt ps : Option Addr} {lb cb lw cw lt ct ls cs : Nat} {B : Nat → Nat} {Wt Tr : Nat → Int} {Sp : Nat → Nat} (sky st : Int) (e : Int) (u : Nat) (w : World) (hF : Fr w) (sea : SeaAt w pb lb cb B pw lw cw Wt pt lt ct Tr ps ls cs Sp) (hu : u < 18446744073709551616) :
    Calls Tryd.prog 3 #[.agg #[.int .i64 side, .int .i64 lim, .slice pb lb cb, .slice pw lw cw, .slice pt lt ct, .slice ps ls cs, .int .i64 sky, .int .i64 st], .int .i64 e, .float .f64 u] w fun e w' => e = .returned (.bool true) ∧ Below w.heap.size w w' := by
  have AWK : Hid (∀ v, Ab w v → Calls Tryd.prog 7 #[] v fun e w' => e = .returned (.bool true) ∧ Below v.heap.size v w') := fun v hv => awake12_at DC v (hF.to hv)
  rcases net12_cases side lim pb pw pt ps lb cb lw cw lt ct ls cs sky st w hF with ⟨n, hn, rfl, rfl, rfl, NT⟩ | NT
  · have en := edges_n hn
    have CE : Hid (∀ gb v, GridOf n gb v → Calls Tryd.prog 10 #[.pointer (some ⟨gb, 0, none⟩)] v fun e w' => e = .returned (.int .i64 (12 * n * n : Nat)) ∧ Below v.heap.size v w') := fun gb v g => (gEdges_at g).mono fun _ _ h => ⟨h.1, by obtain ⟨_, rfl⟩ := h; exact Below.refl _ _⟩
    have CW : Hid (∀ v : World, Calls Tryd.prog 9 #[.int .i64 e, .int .i64 (12 * n * n : Nat)] v fun e' w' => e' = .returned (.int .i64 (wi9 e (12 * n * n) : Nat)) ∧ Below v.heap.size v w') := fun v => (within12_at e (12 * n * n) v en).mono fun _ _ h => ⟨h.1, by obtain ⟨_, rfl⟩ := h; exact Below.refl _ _⟩
    have CD : ∀ u, u < 18446744073709551616 → ∀ gb v, GridOf n gb v → Ab w v → Calls Tryd.prog 11 #[.pointer (some ⟨gb, 0, none⟩), .int .i64 lim, .agg #[.slice pb (6 * n * n) cb, .slice pw (6 * n * n) cw, .slice pt lt ct, .slice ps ls cs, .int .i64 sky, .int .i64 st], .int .i64 (wi9 e (12 * n * n) : Nat), .float .f64 u] v fun e' w' => e' = .returned (.float .f64 (rdAll n lim (6 * n * n) (6 * n * n) B Wt (wi9 e (12 * n * n) : Nat) u)) ∧ Below v.heap.size v w' := fun u hu gb v g a => DC n gb lim pb _ cb B pw _ cw Wt pt lt ct ps ls cs sky st _ u v hn g (sea.bed.below a) (sea.water.below a) hu
    cases p : fgt u 0 with
    | true =>
      have q := fgt_flt hu p
      have eq : rdAll n lim (6 * n * n) (6 * n * n) B Wt (wi9 e (12 * n * n) : Nat) 4607182418800017408 = rdAll n lim (6 * n * n) (6 * n * n) B Wt (wi9 e (12 * n * n) : Nat) u := rdAll_sgn (by rw [p]; decide) (by rw [q]; decide)
      have c2 := CD 4607182418800017408 (by decide)
      rw [eq] at c2
      exact signs12_pos n lim pb pw pt ps _ cb _ cw lt ct ls cs sky st e u _ n _ _ w p q _ rfl (fun h => by
        rcases rdAll_or n lim (6 * n * n) (6 * n * n) B Wt (wi9 e (12 * n * n) : Nat) u with k | k
        · rw [k] at h; cases h
        · exact k) AWK NT CE CW (CD u hu) c2
    | false =>
      cases q : flt u 0 with
      | true =>
        have eq : rdAll n lim (6 * n * n) (6 * n * n) B Wt (wi9 e (12 * n * n) : Nat) 13830554455654793216 = rdAll n lim (6 * n * n) (6 * n * n) B Wt (wi9 e (12 * n * n) : Nat) u := rdAll_sgn (by rw [p]; decide) (by rw [q]; decide)
        have c2 := CD 13830554455654793216 (by decide)
        rw [eq] at c2
        exact signs12_neg n lim pb pw pt ps _ cb _ cw lt ct ls cs sky st e u _ n _ _ w p q _ rfl (fun h => by
          rcases rdAll_or n lim (6 * n * n) (6 * n * n) B Wt (wi9 e (12 * n * n) : Nat) u with k | k
          · rw [k] at h; cases h
          · exact k) AWK NT CE CW (CD u hu) c2
      | false =>
        have c1 := CD u hu
        have c2 := CD 0 (by decide)
        rw [rdAll_0 p q] at c1
        rw [rdAll_0 (by decide) (by decide)] at c2
        exact signs12_nil n lim pb pw pt ps _ cb _ cw lt ct ls cs sky st e u 0 n _ _ w p q rfl AWK NT CE CW c1 c2
  · exact signs12_no side lim pb pw pt ps lb cb lw cw lt ct ls cs sky st e u w AWK NT
end Go.Proofs.YtjgbaenihkplpaaDoor
