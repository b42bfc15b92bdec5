/-
  Some of the texts of this proof, one behind the other.
-/
import Derived.Test.YtgeipbegpflkhaaGreatDoorY14
namespace Go.Proofs.YtgeipbegpflkhaaGreatDoor
open Tf Ieee
/-- what is above nothing, else +0 -/
def pos0 (r : Nat) : Nat := if fgt r 0 = true then r else 0
/-- the depth put forward by half a slope -/
def rcV (k : Int) (h hb hd : Nat) : Nat := plB h (mlB 4602678819172646912 (slp k (sbB h hb) (sbB hd h)))
/-- what stands above the higher bed -/
def rcG (l bu bd : Nat) : Nat := sbB l (maxB bu bd)
/-- the depth over an edge: of the depths here, behind and ahead, the level here and both beds -/
def rcR (k : Int) (h hb hd l bu bd : Nat) : Nat := pos0 (minB (rcV k h hb hd) (rcG l bu bd))
theorem isC_N {r c : Nat} (h : IsC r c) : isN r = isN c := by
  have e := h.2
  unfold canonB at e
  split at e
  · rename_i k; rw [k, ← e]; decide
  · rename_i k
    split at e
    · have n : isN r = false := by simpa using k
      rw [← e, n]; decide
    · rw [e]
theorem isC_or {r c : Nat} (h : IsC r c) (n : isN r = false) : (mg r = 0 ∧ c = 0) ∨ r = c := by
  have e := h.2
  unfold canonB at e
  rw [n] at e
  by_cases z : mg r = 0
  · exact .inl ⟨z, by simpa [z] using e.symm⟩
  · exact .inr (by simpa [z] using e)
theorem slp_N (k : Int) (a b : Nat) : isN (slp k a b) = false := by
  unfold slp
  split
  · rename_i c
    have q := (Bool.and_eq_true _ _).mp c
    exact nn_N (lm_le k (ps_iff.1 q.1).2 (ps_iff.1 q.2).2)
  · split
    · rename_i c
      have q := (Bool.and_eq_true _ _).mp c
      have a1 := ns_iff.1 q.1
      have b1 := ns_iff.1 q.2
      have l := lm_le k (a := a - 9223372036854775808) (b := b - 9223372036854775808) (by omega) (by omega)
      refine isN_false.2 ?_
      unfold op
      split
      · unfold mg; omega
      · unfold mg; omega
    · decide
theorem minB_lt {a b : Nat} (ha : a < 18446744073709551616) (hb : b < 18446744073709551616) : minB a b < 18446744073709551616 := by
  unfold minB
  split
  · decide
  · split <;> assumption
/-- the lesser of two numbers: it is one of them, and not above either -/
theorem minB_num {a b : Nat} (ha : a < 18446744073709551616) (hb : b < 18446744073709551616) (na : isN a = false) (nb : isN b = false) :
    (minB a b = a ∨ minB a b = b) ∧ rk (minB a b) ≤ rk a ∧ rk (minB a b) ≤ rk b := by
  unfold minB
  rw [na, nb, if_neg (by decide)]
  have key : ∀ x y : Nat, x < 18446744073709551616 → y < 18446744073709551616 → placeB x ≤ placeB y → rk x ≤ rk y := by
    intro x y hx hy h
    unfold placeB at h
    unfold rk
    cases gx : ng x <;> cases gy : ng y <;> simp only [gx, gy, if_true, if_false, Bool.false_eq_true] at h ⊢ <;> unfold ng at gx gy <;> simp only [decide_eq_true_eq, decide_eq_false_iff_not] at gx gy <;> unfold mg <;> omega
  split
  · rename_i c
    exact ⟨.inr rfl, key _ _ hb ha (by omega), Int.le_refl _⟩
  · rename_i c
    exact ⟨.inl rfl, Int.le_refl _, key _ _ ha hb (by omega)⟩
theorem minB_nan {a b : Nat} (h : isN a = true ∨ isN b = true) : minB a b = quiet := by
  unfold minB
  rw [if_pos (by rcases h with h | h <;> simp [h])]
/-- of a difference in another form of nothing it is the same -/
theorem pos0_c {v r g : Nat} (hv : v < 18446744073709551616) (h : IsC r g) : pos0 (minB v r) = pos0 (minB v g) := by
  cases nv : isN v
  · cases nr : isN r
    · rcases isC_or h nr with ⟨z, rfl⟩ | rfl
      · have m1 := minB_num hv h.1 nv nr
        have m2 := minB_num hv (b := 0) (by decide) nv (by decide)
        have r0 : rk r = 0 := by unfold rk; rw [z]; simp
        have l1 := minB_lt hv h.1
        have l2 := minB_lt hv (b := 0) (by decide)
        have z1 : pos0 (minB v r) = 0 := by
          unfold pos0
          rw [if_neg]
          intro q
          have := ((fgt_iff l1 (by decide)).1 q).2.2
          rw [rk_zero] at this
          omega
        have z2 : pos0 (minB v 0) = 0 := by
          unfold pos0
          rw [if_neg]
          intro q
          have := ((fgt_iff l2 (by decide)).1 q).2.2
          rw [rk_zero] at this m2
          omega
        rw [z1, z2]
      · rfl
    · rw [minB_nan (.inr nr), minB_nan (.inr (by rw [← isC_N h]; exact nr))]
  · rw [minB_nan (.inl nv), minB_nan (.inl nv)]
end Go.Proofs.YtgeipbegpflkhaaGreatDoor

namespace Go.Proofs.YtgeipbegpflkhaaGreatDoor
open Tf Ieee Cu
/-- the depth from one cell into another, by their areas, beds and waters -/
def ovC (k : Int) (A : Nat → Int) (B : Nat → Nat) (W : Nat → Int) (up down back : Nat) : Nat :=
  rcR k (dpB (W up) (A up)) (dpB (W back) (A back)) (dpB (W down) (A down)) (lvl (B up) (W up) (A up)) (B up) (B down)
/-- the cell behind the cell of a side -/
def bkC (n t : Nat) : Nat := bsC n (t / 4) ((t % 4 + 2) % 4)
/-- the depth over a side, out of its cell -/
def sdD (n : Nat) (k : Int) (A : Nat → Int) (B : Nat → Nat) (W : Nat → Int) (t : Nat) : Nat := ovC k A B W (t / 4) (mt n t / 4) (bkC n t)
/-- the depth over an edge, by its Left's side and the speed -/
def rdT (n : Nat) (k : Int) (A : Nat → Int) (B : Nat → Nat) (W : Nat → Int) (t u : Nat) : Nat :=
  if fgt u 0 = true then sdD n k A B W t else if flt u 0 = true then sdD n k A B W (mt n t) else 0
theorem rdT_p {n : Nat} {k : Int} {A : Nat → Int} {B : Nat → Nat} {W : Nat → Int} {t u : Nat} (h : fgt u 0 = true) : rdT n k A B W t u = sdD n k A B W t := by unfold rdT; rw [if_pos h]
theorem rdT_n {n : Nat} {k : Int} {A : Nat → Int} {B : Nat → Nat} {W : Nat → Int} {t u : Nat} (h : fgt u 0 = false) (g : flt u 0 = true) : rdT n k A B W t u = sdD n k A B W (mt n t) := by unfold rdT; rw [if_neg (by rw [h]; decide), if_pos g]
theorem rdT_0 {n : Nat} {k : Int} {A : Nat → Int} {B : Nat → Nat} {W : Nat → Int} {t u : Nat} (h : fgt u 0 = false) (g : flt u 0 = false) : rdT n k A B W t u = 0 := by unfold rdT; rw [if_neg (by rw [h]; decide), if_neg (by rw [g]; decide)]
theorem bk_lt {n t : Nat} (hn : 1 ≤ n) (ht : t < 24 * n * n) : bkC n t < 6 * n * n := by
  have g := turned_geo (s := (t % 4 + 2) % 4) (t := 0) (k := t / 4) hn rfl (t_cell ht) (by omega) (by decide) (t_cell ht)
  exact g.1.2.2.1
end Go.Proofs.YtgeipbegpflkhaaGreatDoor

namespace Go.Proofs.YtgeipbegpflkhaaGreatDoor
open Tf Ieee
/-- a difference of two depths -/
theorem sb_nn {x y : Nat} (hx : x < 9218868437227405312) (hy : y < 9218868437227405312) : sbB x y = rn false ((mv x : Int) - mv y) := by
  have mx : mg x = x := mg_of_lt (by omega)
  have my : mg y = y := mg_of_lt (by omega)
  have e := sub_d x y (by omega) (by omega) (by omega) (by omega)
  rw [sub_add x y (by omega)] at e
  unfold sbB
  rw [addB_some e, canon_rn, sv_nn (d := x) (by omega), sv_nn (d := y) (by omega)]
end Go.Proofs.YtgeipbegpflkhaaGreatDoor

namespace Go.Proofs.YtgeipbegpflkhaaGreatDoor
open Go.RowKit Tf Cu
theorem arI_top (L : Nat) : 1 ≤ arI L ∧ arI L ≤ 9223372036854775807 := by
  have h : cI .even (arQ L) ≤ 9223372036854775807 := by
    unfold cI
    split
    · rename_i c
      unfold cOk at c
      simp only [Bool.and_eq_true, decide_eq_true_eq] at c
      omega
    · decide
  unfold arI
  omega
/-- the area of a cell -/
def arC (n c : Nat) : Int := arI (ArC n c)
theorem arC_in (n c : Nat) : 1 ≤ arC n c ∧ arC n c ≤ 9223372036854775807 := arI_top _
/-- the depth at all arguments -/
def rdAll (n : Nat) (k : Int) (lb lw : Nat) (B : Nat → Nat) (W : Nat → Int) (e : Int) (u : Nat) : Nat :=
  if inR e (12 * n * n : Nat) = true ∧ lb = 6 * n * n ∧ lw = 6 * n * n then rdT n k (arC n) B W (edT n e.toNat) u else 0
theorem half_some {s : Nat} (hs : s < 18446744073709551616) (h : isN s = false) : Ieee.double.mul 4602678819172646912 s = some (mlB 4602678819172646912 s) := by
  have k : Ieee.double.mul 4602678819172646912 s ≠ none := by
    rcases three s with c | c | c
    · rw [mul_d 4602678819172646912 s (by decide) hs (by decide) c]; exact Option.some_ne_none _
    · rw [mul_fi 4602678819172646912 s (by decide) hs (by decide) c, if_neg (by decide)]; exact Option.some_ne_none _
    · rw [h] at c; cases c
  cases e : Ieee.double.mul 4602678819172646912 s with
  | none => exact absurd e k
  | some r => rw [mlB_some e]
theorem half_N {s : Nat} (hs : s < 18446744073709551616) (h : isN s = false) : isN (mlB 4602678819172646912 s) = false ∧ mlB 4602678819172646912 s < 18446744073709551616 := by
  have e := half_some hs h
  exact ⟨(mul_fact e (by decide) hs).2, (mul_fact e (by decide) hs).1⟩
theorem plus_some {h f : Nat} (hh : h < 9218868437227405312) (hf : f < 18446744073709551616) (nf : isN f = false) : Ieee.double.add h f = some (plB h f) := by
  have mh : mg h < 9218868437227405312 := by rw [mg_of_lt (by omega)]; exact hh
  have k : Ieee.double.add h f ≠ none := by
    rcases three f with c | c | c
    · rw [add_d h f (by omega) hf mh c]; exact Option.some_ne_none _
    · rw [add_fi h f hf mh c]; exact Option.some_ne_none _
    · rw [nf] at c; cases c
  cases e : Ieee.double.add h f with
  | none => exact absurd e k
  | some r => rw [plB_some e]
theorem minus_some {x y : Nat} (hx : x < 9218868437227405312) (hy : y < 9218868437227405312) : Ieee.double.sub x y = some (sbB x y) := by
  have mx : mg x < 9218868437227405312 := by rw [mg_of_lt (by omega)]; exact hx
  have my : mg y < 9218868437227405312 := by rw [mg_of_lt (by omega)]; exact hy
  rw [sub_d x y (by omega) (by omega) mx my, sb_nn hx hy, sv_nn (d := x) (by omega), sv_nn (d := y) (by omega), ng_of_lt (x := x) (by omega)]
  rfl
theorem rcV_lt {k : Int} {h hb hd : Nat} (hh : h < 9218868437227405312) : rcV k h hb hd < 18446744073709551616 := by
  have s := half_N (slp_lt k (sbB h hb) (sbB hd h)) (slp_N k _ _)
  have e := plus_some hh s.2 s.1
  unfold rcV
  exact (IsQ.add (IsQ.self (by omega)) (IsQ.self s.2) e).1
theorem sub_isC {l m g : Nat} (hm : m < 18446744073709551616) (e : Ieee.double.sub l m = some g) (hl : l < 18446744073709551616) : IsC g (sbB l m) := by
  have ea : Ieee.double.add l (negB m) = some g := by rw [← sub_add l m hm]; exact e
  exact ⟨(add_facts hl (negB_lt' hm) ea).1, by unfold sbB; rw [addB_some ea]⟩
theorem IsFl.at0 {w : World} {b o len : Nat} {xs : Nat → Nat} (h : IsFl w (some ⟨b, o, none⟩) len xs) {k : Nat} (hk : k < len) : xs k < 18446744073709551616 ∧ b < w.heap.size ∧ w.cell? ⟨b, o + k, none⟩ = some (.float .f64 (xs k)) := by
  obtain ⟨h1, b', o', e, h2, h3⟩ := h k hk
  injection e with e1
  injection e1 with e2 e3
  subst e2 e3
  exact ⟨h1, h2, h3⟩
theorem IsIn.at0 {w : World} {b o len : Nat} {xs : Nat → Int} (h : IsIn w (some ⟨b, o, none⟩) len xs) {k : Nat} (hk : k < len) : xs k ≤ 9223372036854775807 ∧ b < w.heap.size ∧ w.cell? ⟨b, o + k, none⟩ = some (.int .i64 (xs k)) := by
  obtain ⟨h1, b', o', e, h2, h3⟩ := h k hk
  injection e with e1
  injection e1 with e2 e3
  subst e2 e3
  exact ⟨h1.2, h2, h3⟩
theorem maxB_lt {a b : Nat} (ha : a < 18446744073709551616) (hb : b < 18446744073709551616) : maxB a b < 18446744073709551616 := by
  unfold maxB
  split
  · decide
  · split <;> assumption
theorem fgt_flt {u : Nat} (hu : u < 18446744073709551616) (h : fgt u 0 = true) : flt u 0 = false := by
  rw [fgt_ps hu] at h
  rw [flt_ns hu]
  exact ps_ns h
theorem inR_nat {e : Int} {N : Nat} (h : inR e (N : Nat) = true) : ∃ E : Nat, e = (E : Int) ∧ E < N := by
  obtain ⟨h1, h2⟩ := inR_iff.1 h
  obtain ⟨E, rfl⟩ := Int.eq_ofNat_of_zero_le h1
  exact ⟨E, rfl, by omega⟩
theorem rdAll_no {n : Nat} {k : Int} {lb lw : Nat} {B : Nat → Nat} {W : Nat → Int} {e : Int} {u : Nat} (h : ¬ (inR e (12 * n * n : Nat) = true ∧ lb = 6 * n * n ∧ lw = 6 * n * n)) : rdAll n k lb lw B W e u = 0 := by unfold rdAll; rw [if_neg h]
theorem rdAll_eN {n : Nat} {k : Int} {B : Nat → Nat} {W : Nat → Int} {t u : Nat} (hn : 1 ≤ n) (ht : t < 24 * n * n) (hl : isL n t = true) : rdAll n k (6 * n * n) (6 * n * n) B W (eN n t : Nat) u = rdT n k (arC n) B W t u := by
  unfold rdAll
  rw [if_pos ⟨inR_iff.2 (by have := ed_lt hn ht hl; omega), rfl, rfl⟩, Int.toNat_natCast, edT_eN hn ht hl]
theorem IsFl.some0 {w : World} {a0 : Option Addr} {len : Nat} {xs : Nat → Nat} (h : IsFl w a0 len xs) (h0 : 0 < len) : ∃ b o, a0 = some ⟨b, o, none⟩ := by
  obtain ⟨_, b, o, e, _⟩ := h 0 h0
  exact ⟨b, o, e⟩
theorem IsIn.some0 {w : World} {a0 : Option Addr} {len : Nat} {xs : Nat → Int} (h : IsIn w a0 len xs) (h0 : 0 < len) : ∃ b o, a0 = some ⟨b, o, none⟩ := by
  obtain ⟨_, b, o, e, _⟩ := h 0 h0
  exact ⟨b, o, e⟩
theorem six_pos {n : Nat} (hn : 1 ≤ n) : 0 < 6 * n * n := Nat.mul_pos (Nat.mul_pos (by decide) hn) hn
end Go.Proofs.YtgeipbegpflkhaaGreatDoor

namespace Go.Proofs.YtgeipbegpflkhaaGreatDoor
open Go.RowKit Tf Cu
attribute [local go_sem] run_bits run_from raw_feq raw_fne raw_flt raw_fgt run_neg run_store_float
/-- what Depth is to answer, at all arguments -/
def DepthC : Prop := ∀ (n gb : Nat) (k : Int) (pb : Option Addr) (lb cb : Nat) (B : Nat → Nat) (pw : Option Addr) (lw cw : Nat) (Wt : Nat → Int) (pt : Option Addr) (lt ct : Nat) (ps : Option Addr) (ls cs : Nat) (sky st e : Int) (u : Nat) (w : World), (1 ≤ n ∧ n ≤ 32) → GridOf n gb w → IsFl w pb lb B → IsIn w pw lw Wt → u < 18446744073709551616 →
    Calls Tryz.prog 9 #[.pointer (some ⟨gb, 0, none⟩), .int .i64 k, .agg #[.slice pb lb cb, .slice pw lw cw, .slice pt lt ct, .slice ps ls cs, .int .i64 sky, .int .i64 st], .int .i64 e, .float .f64 u] w fun e' w' => e' = .returned (.float .f64 (rdAll n k lb lw B Wt e u)) ∧ Below w.heap.size w w'
theorem ar1 : ∀ c, c < 6 → arI (ArC 1 c) = 1431655765 := by decide +kernel
def dd12 (c : Nat) : Int := if c = 0 then 2 else if c = 3 then 4 else 1
def wt12 (i : Nat) : Int := if i < 6 then dd12 i * arI (ArC 1 i) else 0
theorem wt_num : wt12 0 = 2863311530 ∧ wt12 1 = 1431655765 ∧ wt12 3 = 5726623060 := by
  unfold wt12 dd12
  rw [ar1 0 (by decide), ar1 1 (by decide), ar1 3 (by decide)]
  decide
theorem side0 : isL 1 0 = true ∧ eN 1 0 = 0 ∧ mt 1 0 / 4 = 1 ∧ bkC 1 0 = 3 := by decide +kernel
theorem rd1 (k : Int) (u : Nat) (h : fgt u 0 = true) : rdAll 1 k 6 6 (fun _ => 0) wt12 0 u = rcR k (dpB 2863311530 1431655765) (dpB 5726623060 1431655765) (dpB 1431655765 1431655765) (lvl 0 2863311530 1431655765) 0 0 := by
  have s := side0
  have e := rdAll_eN (n := 1) (k := k) (B := fun _ => 0) (W := wt12) (t := 0) (u := u) (by decide) (by decide) s.1
  rw [s.2.1] at e
  have w := wt_num
  have a0 : arC 1 0 = 1431655765 := ar1 0 (by decide)
  have a1 : arC 1 1 = 1431655765 := ar1 1 (by decide)
  have a3 : arC 1 3 = 1431655765 := ar1 3 (by decide)
  refine Eq.trans e ?_
  rw [rdT_p h]
  unfold sdD ovC
  rw [s.2.2.1, s.2.2.2, show (0 : Nat) / 4 = 0 from rfl, w.1, w.2.1, w.2.2, a0, a1, a3]
theorem rn0 : rcR 0 (dpB 2863311530 1431655765) (dpB 5726623060 1431655765) (dpB 1431655765 1431655765) (lvl 0 2863311530 1431655765) 0 0 = 4611686018427387904 := by decide +kernel
theorem rn1 : rcR 1 (dpB 2863311530 1431655765) (dpB 5726623060 1431655765) (dpB 1431655765 1431655765) (lvl 0 2863311530 1431655765) 0 0 = 4609434218613702656 := by decide +kernel
theorem rn2 : rcR 2 (dpB 2863311530 1431655765) (dpB 5726623060 1431655765) (dpB 1431655765 1431655765) (lvl 0 2863311530 1431655765) 0 0 = 4607182418800017408 := by decide +kernel
theorem rd0 (k : Int) : rdAll 1 k 6 6 (fun _ => 0) wt12 0 0 = 0 := by
  have s := side0
  have e := rdAll_eN (n := 1) (k := k) (B := fun _ => 0) (W := wt12) (t := 0) (u := 0) (by decide) (by decide) s.1
  rw [s.2.1] at e
  refine Eq.trans e ?_
  exact rdT_0 (by decide) (by decide)
theorem rawBits12 (x : Nat) (w : World) : Calls Tryz.prog 11 #[.float .f64 x] w fun e w' => e = .returned (.int .u64 ((x : Nat) : Int)) ∧ w' = w := by
  go_enter Tryz.func11, Tryz.ntmps11
  go_wp2
  go_ret
  exact ⟨rfl, rfl⟩
theorem rowIs.fl {w : World} {b n : Nat} {f : Nat → Nat} (h : w.rowIs b 28 n (fun i => .float .f64 (f i))) (hf : ∀ i, i < n → f i < 18446744073709551616) : IsFl w (some ⟨b, 0, none⟩) n f := fun k hk => ⟨hf k hk, b, 0, rfl, h.lt, by rw [Nat.zero_add]; exact h.cell hk⟩
theorem rowIs.in {w : World} {b n : Nat} {f : Nat → Int} (h : w.rowIs b 2 n (fun i => .int .i64 (f i))) (hf : ∀ i, i < n → -9223372036854775808 ≤ f i ∧ f i ≤ 9223372036854775807) : IsIn w (some ⟨b, 0, none⟩) n f := fun k hk => ⟨hf k hk, b, 0, rfl, h.lt, by rw [Nat.zero_add]; exact h.cell hk⟩
theorem wt_in : ∀ c, c < 6 → -9223372036854775808 ≤ wt12 c ∧ wt12 c ≤ 9223372036854775807 := by
  intro c hc
  unfold wt12
  rw [if_pos hc, ar1 c hc]
  unfold dd12
  split
  · decide
  · split <;> decide
theorem wt_wrap : ∀ c, c < 6 → IntKind.i64.wrap (dd12 c * arI (ArC 1 c)) = dd12 c * arI (ArC 1 c) := by
  intro c hc
  rw [ar1 c hc]
  unfold dd12
  split
  · decide
  · split <;> decide
set_option maxRecDepth 100000 in
set_option maxHeartbeats 8000000 in
theorem awake12_at (DC : DepthC) (w : World) (hF : Fr w) : Calls Tryz.prog 5 #[] w fun e w' => e = .returned (.bool true) ∧ Below w.heap.size w w' := by
  have NW := hid (new_at 1 w (by omega) hF)
  have HD := hid DC
  have RB := hid rawBits12
  have q0 : feq 4611686018427387904 4611686018427387904 = true := by decide
  have q1 : feq 4609434218613702656 4609434218613702656 = true := by decide
  have q2 : feq 4607182418800017408 4607182418800017408 = true := by decide
  clear hF DC
  go_enter Tryz.func5, Tryz.ntmps5
  go_wp2_with fail
  refine NW.out.mono ?_
  rintro e v1 ⟨gb, rfl, a1, -, g1⟩
  have AW1 : Hid (Ab w v1) := a1
  have G1 : Hid (GridOf 1 gb v1) := g1
  clear a1 g1 NW
  have FL := hid (flat_at (dd := dd12) v1 G1.out wt_wrap)
  rw [show dd12 0 = 2 from rfl, show dd12 1 = 1 from rfl, show dd12 2 = 1 from rfl, show dd12 3 = 4 from rfl, show dd12 4 = 1 from rfl, show dd12 5 = 1 from rfl] at FL
  go_wp2_with fail
  refine FL.out.mono ?_
  rintro e v2 ⟨b1, b2, b3, rfl, k2, r1, r2, r3⟩
  have AB : Hid (Ab v1 (v2.alloc (.cells #[.slice (some ⟨b1, 0, none⟩) 6 6, .slice (some ⟨b2, 0, none⟩) 6 6, .slice none 0 0, .slice (some ⟨b3, 0, none⟩) 12 12, .int .i64 0, .int .i64 0] 25))) := (show Ab v1 v2 from k2).alloc _
  have IB : Hid (IsFl (v2.alloc (.cells #[.slice (some ⟨b1, 0, none⟩) 6 6, .slice (some ⟨b2, 0, none⟩) 6 6, .slice none 0 0, .slice (some ⟨b3, 0, none⟩) 12 12, .int .i64 0, .int .i64 0] 25)) (some ⟨b1, 0, none⟩) 6 (fun _ => 0)) := (rowIs.fl (r1.alloc _) (fun _ _ => by decide))
  have IW : Hid (IsIn (v2.alloc (.cells #[.slice (some ⟨b1, 0, none⟩) 6 6, .slice (some ⟨b2, 0, none⟩) 6 6, .slice none 0 0, .slice (some ⟨b3, 0, none⟩) 12 12, .int .i64 0, .int .i64 0] 25)) (some ⟨b2, 0, none⟩) 6 wt12) := rowIs.in (f := wt12) (r2.alloc _) wt_in
  have RS : Hid ((v2.alloc (.cells #[.slice (some ⟨b1, 0, none⟩) 6 6, .slice (some ⟨b2, 0, none⟩) 6 6, .slice none 0 0, .slice (some ⟨b3, 0, none⟩) 12 12, .int .i64 0, .int .i64 0] 25)).heap[v2.heap.size]? = some (.cells #[.slice (some ⟨b1, 0, none⟩) 6 6, .slice (some ⟨b2, 0, none⟩) 6 6, .slice none 0 0, .slice (some ⟨b3, 0, none⟩) 12 12, .int .i64 0, .int .i64 0] 25)) := heap_alloc_new _ _
  have CD : Hid (∀ (k : Int) (u r : Nat), u < 18446744073709551616 → rdAll 1 k 6 6 (fun _ => 0) wt12 0 u = r → ∀ v, Ab (v2.alloc (.cells #[.slice (some ⟨b1, 0, none⟩) 6 6, .slice (some ⟨b2, 0, none⟩) 6 6, .slice none 0 0, .slice (some ⟨b3, 0, none⟩) 12 12, .int .i64 0, .int .i64 0] 25)) v → Calls Tryz.prog 9 #[.pointer (some ⟨gb, 0, none⟩), .int .i64 k, .agg #[.slice (some ⟨b1, 0, none⟩) 6 6, .slice (some ⟨b2, 0, none⟩) 6 6, .slice none 0 0, .slice (some ⟨b3, 0, none⟩) 12 12, .int .i64 0, .int .i64 0], .int .i64 0, .float .f64 u] v fun e' w' => e' = .returned (.float .f64 r) ∧ Below v.heap.size v w') := fun k u r hu hr v hv => by
    have h := HD.out 1 gb k (some ⟨b1, 0, none⟩) 6 6 (fun _ => 0) (some ⟨b2, 0, none⟩) 6 6 wt12 none 0 0 (some ⟨b3, 0, none⟩) 12 12 0 0 0 u v (by omega) (G1.out.to (AB.out.trans hv)) (IB.out.below hv) (IW.out.below hv) hu
    rwa [hr] at h
  clear k2 r1 r2 r3 FL HD IB IW
  have c0 := cell_of_row _ _ 0 _ _ _ RS.out
  have c1 := cell_of_row _ _ 1 _ _ _ RS.out
  have c2 := cell_of_row _ _ 2 _ _ _ RS.out
  have c3 := cell_of_row _ _ 3 _ _ _ RS.out
  have c4 := cell_of_row _ _ 4 _ _ _ RS.out
  have c5 := cell_of_row _ _ 5 _ _ _ RS.out
  go_wp2_with fail
  generalize hV : v2.alloc (.cells #[.slice (some ⟨b1, 0, none⟩) 6 6, .slice (some ⟨b2, 0, none⟩) 6 6, .slice none 0 0, .slice (some ⟨b3, 0, none⟩) 12 12, .int .i64 0, .int .i64 0] 25) = V at *
  clear hV
  refine (CD.out 0 4607182418800017408 4611686018427387904 (by decide) ((rd1 0 _ (by decide)).trans rn0) _ (Ab.refl _)).mono ?_
  rintro e v3 ⟨rfl, k3⟩
  clear c0 c1 c2 c3 c4 c5
  have A3 : Hid (Ab V v3) := k3
  clear k3
  have c0 := cell_of_row _ _ 0 _ _ _ (A3.out.heap RS.out)
  have c1 := cell_of_row _ _ 1 _ _ _ (A3.out.heap RS.out)
  have c2 := cell_of_row _ _ 2 _ _ _ (A3.out.heap RS.out)
  have c3 := cell_of_row _ _ 3 _ _ _ (A3.out.heap RS.out)
  have c4 := cell_of_row _ _ 4 _ _ _ (A3.out.heap RS.out)
  have c5 := cell_of_row _ _ 5 _ _ _ (A3.out.heap RS.out)
  go_wp2_with fail
  refine (CD.out 1 4607182418800017408 4609434218613702656 (by decide) ((rd1 1 _ (by decide)).trans rn1) _ A3.out).mono ?_
  rintro e v4 ⟨rfl, k4⟩
  clear c0 c1 c2 c3 c4 c5
  have A4 : Hid (Ab V v4) := A3.out.call k4
  clear k4
  have c0 := cell_of_row _ _ 0 _ _ _ (A4.out.heap RS.out)
  have c1 := cell_of_row _ _ 1 _ _ _ (A4.out.heap RS.out)
  have c2 := cell_of_row _ _ 2 _ _ _ (A4.out.heap RS.out)
  have c3 := cell_of_row _ _ 3 _ _ _ (A4.out.heap RS.out)
  have c4 := cell_of_row _ _ 4 _ _ _ (A4.out.heap RS.out)
  have c5 := cell_of_row _ _ 5 _ _ _ (A4.out.heap RS.out)
  go_wp2_with fail
  refine (CD.out 2 4598175219545276416 4607182418800017408 (by decide) ((rd1 2 _ (by decide)).trans rn2) _ A4.out).mono ?_
  rintro e v5 ⟨rfl, k5⟩
  clear c0 c1 c2 c3 c4 c5
  have A5 : Hid (Ab V v5) := A4.out.call k5
  clear k5
  have c0 := cell_of_row _ _ 0 _ _ _ (A5.out.heap RS.out)
  have c1 := cell_of_row _ _ 1 _ _ _ (A5.out.heap RS.out)
  have c2 := cell_of_row _ _ 2 _ _ _ (A5.out.heap RS.out)
  have c3 := cell_of_row _ _ 3 _ _ _ (A5.out.heap RS.out)
  have c4 := cell_of_row _ _ 4 _ _ _ (A5.out.heap RS.out)
  have c5 := cell_of_row _ _ 5 _ _ _ (A5.out.heap RS.out)
  go_wp2_with fail
  refine (CD.out 0 0 0 (by decide) (rd0 0) _ A5.out).mono ?_
  rintro e v6 ⟨rfl, k6⟩
  clear c0 c1 c2 c3 c4 c5
  have A6 : Hid (Ab V v6) := A5.out.call k6
  clear k6
  go_wp2_with fail
  refine (RB.out _ _).mono ?_
  rintro e v7 ⟨rfl, hv7⟩
  have hv8 := hv7.symm
  subst hv8
  go_wp2
  go_ret
  exact ⟨rfl, (AW1.out.trans AB.out).trans A6.out⟩
end Go.Proofs.YtgeipbegpflkhaaGreatDoor

namespace Go.Proofs.YtgeipbegpflkhaaGreatDoor
open Go.RowKit Tf
attribute [local go_sem] run_bits run_from raw_feq raw_fne raw_flt raw_fgt run_neg
set_option maxHeartbeats 1000000 in
set_option maxRecDepth 100000 in
theorem refMax_any (a b : Nat) (w : World) (ha : a < 18446744073709551616) (hb : b < 18446744073709551616) :
    Calls Tryz.prog 40 #[.float .f64 a, .float .f64 b] w fun e w' => e = .returned (.float .f64 (maxB a b)) ∧ w' = w := by
  obtain ⟨r, hr⟩ : ∃ r, maxB a b = r := ⟨_, rfl⟩
  obtain ⟨o, ho⟩ : ∃ o, orderB a b = o := ⟨_, rfl⟩
  have h1 := orderB_lt a b
  rw [ho] at h1
  have HO : Hid (orderB a b = o) := ho
  have HR : Hid (r = if isN a || isN b then quiet else if o < 0 then b else a) := by
    show r = _
    rw [← hr]; unfold maxB; simp only [h1]
  rw [hr]
  clear hr ho h1
  cases nA : isN a
  · cases nB : isN b
    · have h := HR.out
      rw [nA, nB] at h
      simp only [Bool.or_self, Bool.false_eq_true, if_false] at h
      by_cases c : o < 0
      · have e1 : decide (0 ≤ o) = false := by simp; omega
        rw [if_pos c] at h
        rw [h]
        clear c HR h
        go_enter Tryz.func40, Tryz.ntmps40
        go_wp2_with fail
        refine (refNone_any a _).mono ?_
        rintro e w' ⟨rfl, rfl⟩
        go_wp2_with fail
        refine (refNone_any b _).mono ?_
        rintro e w' ⟨rfl, rfl⟩
        go_wp2_with fail
        refine (refOrd_at a b o _ ha hb HO).mono ?_
        rintro e w' ⟨rfl, rfl⟩
        go_wp2
        go_ret
        exact ⟨rfl, rfl⟩
      · have e1 : decide (0 ≤ o) = true := by simp; omega
        rw [if_neg c] at h
        rw [h]
        clear c HR h
        go_enter Tryz.func40, Tryz.ntmps40
        go_wp2_with fail
        refine (refNone_any a _).mono ?_
        rintro e w' ⟨rfl, rfl⟩
        go_wp2_with fail
        refine (refNone_any b _).mono ?_
        rintro e w' ⟨rfl, rfl⟩
        go_wp2_with fail
        refine (refOrd_at a b o _ ha hb HO).mono ?_
        rintro e w' ⟨rfl, rfl⟩
        go_wp2
        go_ret
        exact ⟨rfl, rfl⟩
    · have h := HR.out
      rw [nA, nB] at h
      simp only [Bool.or_true, if_true] at h
      rw [h]
      clear HR h
      go_enter Tryz.func40, Tryz.ntmps40
      go_wp2_with fail
      refine (refNone_any a _).mono ?_
      rintro e w' ⟨rfl, rfl⟩
      go_wp2_with fail
      refine (refNone_any b _).mono ?_
      rintro e w' ⟨rfl, rfl⟩
      go_wp2_with fail
      refine (refQuiet_any _).mono ?_
      rintro e w' ⟨rfl, rfl⟩
      go_wp2
      go_ret
      exact ⟨rfl, rfl⟩
  · have h := HR.out
    rw [nA] at h
    simp only [Bool.true_or, if_true] at h
    rw [h]
    clear HR h
    go_enter Tryz.func40, Tryz.ntmps40
    go_wp2_with fail
    refine (refNone_any a _).mono ?_
    rintro e w' ⟨rfl, rfl⟩
    go_wp2_with fail
    refine (refQuiet_any _).mono ?_
    rintro e w' ⟨rfl, rfl⟩
    go_wp2
    go_ret
    exact ⟨rfl, rfl⟩

set_option maxHeartbeats 1000000 in
set_option maxRecDepth 100000 in
theorem refMin_any (a b : Nat) (w : World) (ha : a < 18446744073709551616) (hb : b < 18446744073709551616) :
    Calls Tryz.prog 41 #[.float .f64 a, .float .f64 b] w fun e w' => e = .returned (.float .f64 (minB a b)) ∧ w' = w := by
  obtain ⟨r, hr⟩ : ∃ r, minB a b = r := ⟨_, rfl⟩
  obtain ⟨o, ho⟩ : ∃ o, orderB a b = o := ⟨_, rfl⟩
  have h1 := orderB_gt a b
  rw [ho] at h1
  have HO : Hid (orderB a b = o) := ho
  have HR : Hid (r = if isN a || isN b then quiet else if 0 < o then b else a) := by
    show r = _
    rw [← hr]; unfold minB; simp only [h1]
  rw [hr]
  clear hr ho h1
  cases nA : isN a
  · cases nB : isN b
    · have h := HR.out
      rw [nA, nB] at h
      simp only [Bool.or_self, Bool.false_eq_true, if_false] at h
      by_cases c : 0 < o
      · have e1 : decide (o ≤ 0) = false := by simp; omega
        rw [if_pos c] at h
        rw [h]
        clear c HR h
        go_enter Tryz.func41, Tryz.ntmps41
        go_wp2_with fail
        refine (refNone_any a _).mono ?_
        rintro e w' ⟨rfl, rfl⟩
        go_wp2_with fail
        refine (refNone_any b _).mono ?_
        rintro e w' ⟨rfl, rfl⟩
        go_wp2_with fail
        refine (refOrd_at a b o _ ha hb HO).mono ?_
        rintro e w' ⟨rfl, rfl⟩
        go_wp2
        go_ret
        exact ⟨rfl, rfl⟩
      · have e1 : decide (o ≤ 0) = true := by simp; omega
        rw [if_neg c] at h
        rw [h]
        clear c HR h
        go_enter Tryz.func41, Tryz.ntmps41
        go_wp2_with fail
        refine (refNone_any a _).mono ?_
        rintro e w' ⟨rfl, rfl⟩
        go_wp2_with fail
        refine (refNone_any b _).mono ?_
        rintro e w' ⟨rfl, rfl⟩
        go_wp2_with fail
        refine (refOrd_at a b o _ ha hb HO).mono ?_
        rintro e w' ⟨rfl, rfl⟩
        go_wp2
        go_ret
        exact ⟨rfl, rfl⟩
    · have h := HR.out
      rw [nA, nB] at h
      simp only [Bool.or_true, if_true] at h
      rw [h]
      clear HR h
      go_enter Tryz.func41, Tryz.ntmps41
      go_wp2_with fail
      refine (refNone_any a _).mono ?_
      rintro e w' ⟨rfl, rfl⟩
      go_wp2_with fail
      refine (refNone_any b _).mono ?_
      rintro e w' ⟨rfl, rfl⟩
      go_wp2_with fail
      refine (refQuiet_any _).mono ?_
      rintro e w' ⟨rfl, rfl⟩
      go_wp2
      go_ret
      exact ⟨rfl, rfl⟩
  · have h := HR.out
    rw [nA] at h
    simp only [Bool.true_or, if_true] at h
    rw [h]
    clear HR h
    go_enter Tryz.func41, Tryz.ntmps41
    go_wp2_with fail
    refine (refNone_any a _).mono ?_
    rintro e w' ⟨rfl, rfl⟩
    go_wp2_with fail
    refine (refQuiet_any _).mono ?_
    rintro e w' ⟨rfl, rfl⟩
    go_wp2
    go_ret
    exact ⟨rfl, rfl⟩

end Go.Proofs.YtgeipbegpflkhaaGreatDoor

namespace Go.Proofs.YtgeipbegpflkhaaGreatDoor
open Go.RowKit Tf
attribute [local go_sem] run_bits run_from raw_feq raw_fne raw_flt raw_fgt run_neg
theorem isC_eq {r c : Nat} (h : IsC r c) (c0 : 0 < c) (c1 : c ≤ 9218868437227405312) : r = c := by
  have e := h.2
  unfold canonB at e
  split at e
  · unfold quiet at e; omega
  · split at e
    · omega
    · exact e
theorem add_can {P : Program} (w : World) (s x : Nat) (hs : s < 18446744073709551616) (hx : x < 18446744073709551616) :
    ∃ r n, (∀ t, (binOp .add t (.float .f64 s) (.float .f64 x)).run P w = .ok (.float .f64 r) (w.drewN n)) ∧ IsC r (addB s x) := by
  cases e : Ieee.double.add s x with
  | none => exact ⟨nanOf w s x, 1, fun t => run_nan_add w t s x e, nanOf_lt _ _ _, by rw [addB_none e]; unfold canonB; rw [if_pos (isN_nanOf _ _ _)]⟩
  | some r => exact ⟨r, 0, fun t => run_float_arith w .add t .f64 s x r e, by
      have q := IsQ.add (IsQ.self hs) (IsQ.self hx) e
      exact q.1, by rw [addB_some e]⟩
theorem depth_no (n a : Int) (w : World) (h : n < 1 ∨ a < 1) :
    Calls Tryz.prog 100 #[.int .i64 n, .int .i64 a] w fun e w' => e = .returned (.float .f64 0) ∧ w' = w := by
  by_cases c : n < 1
  · go_enter Tryz.func100, Tryz.ntmps100
    go_wp2
    go_ret
    exact ⟨rfl, rfl⟩
  · have d : a < 1 := by omega
    clear h
    go_enter Tryz.func100, Tryz.ntmps100
    go_wp2
    go_ret
    exact ⟨rfl, rfl⟩
theorem depth_yes (n a : Int) (w : World) (h1 : 1 ≤ n) (h2 : 1 ≤ a) (n2 : n ≤ 9223372036854775807) (a2 : a ≤ 9223372036854775807) :
    Calls Tryz.prog 100 #[.int .i64 n, .int .i64 a] w fun e w' => e = .returned (.float .f64 (dpB n a)) ∧ ∃ k, w' = w.drewN k := by
  obtain ⟨r, k, hr, hc⟩ := div_any (P := Tryz.prog) w (fw n) (fw a)
  have e := isC_eq hc (by rw [← dp_of h1 h2]; have := dp_in h1 h2 n2 a2; omega) (by rw [← dp_of h1 h2]; have := dp_in h1 h2 n2 a2; omega)
  rw [dp_of h1 h2, ← e]
  clear e hc
  have F1 := hid (fromInt_any n w)
  have F2 := hid (fromInt_any a w)
  rw [show rn false (n * one) = fw n from rfl] at F1
  rw [show rn false (a * one) = fw a from rfl] at F2
  generalize fw n = x at *
  generalize fw a = y at *
  go_enter Tryz.func100, Tryz.ntmps100
  go_wp2_with fail
  refine F1.out.mono ?_
  rintro e w' ⟨rfl, rfl⟩
  go_wp2_with fail
  refine F2.out.mono ?_
  rintro e w' ⟨rfl, rfl⟩
  go_wp2
  go_ret
  exact ⟨rfl, k, rfl⟩
theorem depth_at (n a : Int) (w : World) (n2 : n ≤ 9223372036854775807) (a2 : a ≤ 9223372036854775807) :
    Calls Tryz.prog 100 #[.int .i64 n, .int .i64 a] w fun e w' => e = .returned (.float .f64 (dpB n a)) ∧ ∃ k, w' = w.drewN k := by
  by_cases c : n < 1 ∨ a < 1
  · rw [dp_zero c]
    exact (depth_no n a w c).mono fun _ _ h => ⟨h.1, 0, h.2⟩
  · exact depth_yes n a w (by omega) (by omega) n2 a2
theorem level_at (b : Nat) (n a : Int) (w : World) (hb : b < 18446744073709551616) (n2 : n ≤ 9223372036854775807) (a2 : a ≤ 9223372036854775807) :
    Calls Tryz.prog 67 #[.float .f64 b, .int .i64 n, .int .i64 a] w fun e w' => e = .returned (.float .f64 (lvl b n a)) ∧ ∃ k, w' = w.drewN k := by
  have D := hid (depth_at n a w n2 a2)
  have e0 : lvl b n a = addB b (dpB n a) := rfl
  rw [e0]
  have hd : dpB n a < 18446744073709551616 := by have := dp_le n2 a2; omega
  clear e0
  generalize dpB n a = d at *
  have AD : Hid (∀ k : Nat, ∃ r m, (∀ t, (binOp .add t (.float .f64 b) (.float .f64 d)).run Tryz.prog (w.drewN k) = .ok (.float .f64 r) ((w.drewN k).drewN m)) ∧ IsC r (addB b d)) := fun k => add_can _ b d hb hd
  generalize addB b d = y at *
  go_enter Tryz.func67, Tryz.ntmps67
  go_wp2_with fail
  refine D.out.mono ?_
  rintro e w' ⟨rfl, k, rfl⟩
  obtain ⟨r, m, hr, hc⟩ := AD.out k
  have C := hid (canon_any r (w.drewN (k + m)) hc.1)
  rw [hc.2] at C
  go_wp2_with fail
  refine C.out.mono ?_
  rintro e w' ⟨rfl, rfl⟩
  go_wp2
  go_ret
  exact ⟨rfl, k + m, rfl⟩
end Go.Proofs.YtgeipbegpflkhaaGreatDoor

namespace Go.Proofs.YtgeipbegpflkhaaGreatDoor
open Go.RowKit Tf
attribute [local go_sem] run_bits run_from raw_feq raw_fne raw_flt raw_fgt run_neg
theorem rdepth_no11 (n a : Int) (w : World) (h : n < 1 ∨ a < 1) :
    Calls Tryz.prog 36 #[.int .i64 n, .int .i64 a] w fun e w' => e = .returned (.float .f64 0) ∧ w' = w := by
  by_cases c : n < 1
  · go_enter Tryz.func36, Tryz.ntmps36
    go_wp2
    go_ret
    exact ⟨rfl, rfl⟩
  · have d : a < 1 := by omega
    clear h
    go_enter Tryz.func36, Tryz.ntmps36
    go_wp2
    go_ret
    exact ⟨rfl, rfl⟩
theorem rdepth_yes11 (n a : Int) (w : World) (h1 : 1 ≤ n) (h2 : 1 ≤ a) (n2 : n ≤ 9223372036854775807) (a2 : a ≤ 9223372036854775807) :
    Calls Tryz.prog 36 #[.int .i64 n, .int .i64 a] w fun e w' => e = .returned (.float .f64 (dpB n a)) ∧ ∃ k, w' = w.drewN k := by
  obtain ⟨r, k, hr, hc⟩ := div_any (P := Tryz.prog) w (fw n) (fw a)
  have e := isC_eq hc (by rw [← dp_of h1 h2]; have := dp_in h1 h2 n2 a2; omega) (by rw [← dp_of h1 h2]; have := dp_in h1 h2 n2 a2; omega)
  rw [dp_of h1 h2, ← e]
  clear e hc
  have F1 := hid (Ref2.refFromInt_at n _ w (by omega) n2 rfl)
  have F2 := hid (Ref2.refFromInt_at a _ w (by omega) a2 rfl)
  rw [show rn false (n * one) = fw n from rfl] at F1
  rw [show rn false (a * one) = fw a from rfl] at F2
  generalize fw n = x at *
  generalize fw a = y at *
  go_enter Tryz.func36, Tryz.ntmps36
  go_wp2_with fail
  refine F1.out.mono ?_
  rintro e w' ⟨rfl, rfl⟩
  go_wp2_with fail
  refine F2.out.mono ?_
  rintro e w' ⟨rfl, rfl⟩
  go_wp2
  go_ret
  exact ⟨rfl, k, rfl⟩
theorem rdepth_at11 (n a : Int) (w : World) (n2 : n ≤ 9223372036854775807) (a2 : a ≤ 9223372036854775807) :
    Calls Tryz.prog 36 #[.int .i64 n, .int .i64 a] w fun e w' => e = .returned (.float .f64 (dpB n a)) ∧ ∃ k, w' = w.drewN k := by
  by_cases c : n < 1 ∨ a < 1
  · rw [dp_zero c]
    exact (rdepth_no11 n a w c).mono fun _ _ h => ⟨h.1, 0, h.2⟩
  · exact rdepth_yes11 n a w (by omega) (by omega) n2 a2
theorem rlevel_at11 (b : Nat) (n a : Int) (w : World) (hb : b < 18446744073709551616) (n2 : n ≤ 9223372036854775807) (a2 : a ≤ 9223372036854775807) :
    Calls Tryz.prog 39 #[.float .f64 b, .int .i64 n, .int .i64 a] w fun e w' => e = .returned (.float .f64 (lvl b n a)) ∧ ∃ k, w' = w.drewN k := by
  have D := hid (rdepth_at11 n a w n2 a2)
  have e0 : lvl b n a = addB b (dpB n a) := rfl
  rw [e0]
  have hd : dpB n a < 18446744073709551616 := by have := dp_le n2 a2; omega
  clear e0
  generalize dpB n a = d at *
  have AD : Hid (∀ k : Nat, ∃ r m, (∀ t, (binOp .add t (.float .f64 b) (.float .f64 d)).run Tryz.prog (w.drewN k) = .ok (.float .f64 r) ((w.drewN k).drewN m)) ∧ IsC r (addB b d)) := fun k => add_can _ b d hb hd
  generalize addB b d = y at *
  go_enter Tryz.func39, Tryz.ntmps39
  go_wp2_with fail
  refine D.out.mono ?_
  rintro e w' ⟨rfl, k, rfl⟩
  obtain ⟨r, m, hr, hc⟩ := AD.out k
  have C := hid (refCanon_any r (w.drewN (k + m)))
  rw [hc.2] at C
  go_wp2_with fail
  refine C.out.mono ?_
  rintro e w' ⟨rfl, rfl⟩
  go_wp2
  go_ret
  exact ⟨rfl, k + m, rfl⟩
end Go.Proofs.YtgeipbegpflkhaaGreatDoor

namespace Go.Proofs.YtgeipbegpflkhaaGreatDoor
open Go.RowKit Tf
attribute [local go_sem] run_bits run_from raw_feq raw_fne raw_flt raw_fgt run_neg
theorem run_min_f {P : Program} (w : World) (ts : Array TypeId) (t : TypeId) {a b : Nat} (ha : a ≤ 9218868437227405312) (hb : b ≤ 9218868437227405312) :
    (Builtin.min_ ts t #[.float .f64 a, .float .f64 b]).run P w = .ok (.float .f64 (min a b)) w := by
  have h : FloatKind.f64.format.order a b = _ := order_pp ha hb
  by_cases c : a < b
  · rw [if_pos c] at h
    simp [Builtin.min_, Builtin.min2, h]
    omega
  · rw [if_neg c] at h
    by_cases d : b < a
    · rw [if_pos d] at h
      simp [Builtin.min_, Builtin.min2, h]
      omega
    · rw [if_neg d] at h
      have e : a = b := by omega
      subst e
      simp [Builtin.min_, Builtin.min2, h]
theorem run_max_f {P : Program} (w : World) (ts : Array TypeId) (t : TypeId) {a b : Nat} (ha : a ≤ 9218868437227405312) (hb : b ≤ 9218868437227405312) :
    (Builtin.max_ ts t #[.float .f64 a, .float .f64 b]).run P w = .ok (.float .f64 (max a b)) w := by
  have h : FloatKind.f64.format.order a b = _ := order_pp ha hb
  by_cases c : a < b
  · rw [if_pos c] at h
    simp [Builtin.max_, Builtin.max2, h]
    omega
  · rw [if_neg c] at h
    by_cases d : b < a
    · rw [if_pos d] at h
      simp [Builtin.max_, Builtin.max2, h]
      omega
    · rw [if_neg d] at h
      have e : a = b := by omega
      subst e
      simp [Builtin.max_, Builtin.max2, h]
theorem plain_at (a b : Nat) (w : World) : Calls Tryz.prog 114 #[.float .f64 a, .float .f64 b] w fun e w' => e = .returned (.float .f64 0) ∧ w' = w := by
  go_enter Tryz.func114, Tryz.ntmps114
  go_wp2
  go_ret
  exact ⟨rfl, rfl⟩
theorem minmod_at (a b : Nat) (w : World) (ha : a ≤ 9218868437227405312) (hb : b ≤ 9218868437227405312) : Calls Tryz.prog 115 #[.float .f64 a, .float .f64 b] w fun e w' => e = .returned (.float .f64 (min a b)) ∧ w' = w := by
  have h : ∀ ts t, (Builtin.min_ ts t #[.float .f64 a, .float .f64 b]).run Tryz.prog w = .ok (.float .f64 (min a b)) w := fun ts t => run_min_f w ts t ha hb
  generalize e : min a b = m at h ⊢
  clear e ha hb
  go_enter Tryz.func115, Tryz.ntmps115
  go_wp2
  go_ret
  exact ⟨rfl, rfl⟩
set_option maxHeartbeats 1000000 in
theorem superbee_at (a b : Nat) (w : World) (ha : ps a = true) (hb : ps b = true) : Calls Tryz.prog 116 #[.float .f64 a, .float .f64 b] w fun e w' => e = .returned (.float .f64 (sbee a b)) ∧ w' = w := by
  obtain ⟨a0, a1⟩ := ps_iff.1 ha
  obtain ⟨b0, b1⟩ := ps_iff.1 hb
  have fa := (d2_facts a1).1
  have fb := (d2_facts b1).1
  have h1 : ∀ t, (binOp .mul t (.float .f64 4611686018427387904) (.float .f64 a)).run Tryz.prog w = .ok (.float .f64 (mlB 4611686018427387904 a)) w := fun t => run_float_arith w .mul t .f64 _ _ _ (mul_pp (by decide) a1 (by decide) a0)
  have h2 : ∀ t, (binOp .mul t (.float .f64 4611686018427387904) (.float .f64 b)).run Tryz.prog w = .ok (.float .f64 (mlB 4611686018427387904 b)) w := fun t => run_float_arith w .mul t .f64 _ _ _ (mul_pp (by decide) b1 (by decide) b0)
  have h3 : ∀ ts t, (Builtin.min_ ts t #[.float .f64 (mlB 4611686018427387904 a), .float .f64 b]).run Tryz.prog w = .ok (.float .f64 (min (mlB 4611686018427387904 a) b)) w := fun ts t => run_min_f w ts t fa b1
  have h4 : ∀ ts t, (Builtin.min_ ts t #[.float .f64 a, .float .f64 (mlB 4611686018427387904 b)]).run Tryz.prog w = .ok (.float .f64 (min a (mlB 4611686018427387904 b))) w := fun ts t => run_min_f w ts t a1 fb
  have h5 : ∀ ts t, (Builtin.max_ ts t #[.float .f64 (min (mlB 4611686018427387904 a) b), .float .f64 (min a (mlB 4611686018427387904 b))]).run Tryz.prog w = .ok (.float .f64 (sbee a b)) w := fun ts t => run_max_f w ts t (by omega) (by omega)
  generalize mlB 4611686018427387904 a = p at *
  generalize mlB 4611686018427387904 b = q at *
  generalize min p b = u at *
  generalize min a q = v at *
  generalize sbee a b = s at *
  clear a0 a1 b0 b1 fa fb ha hb
  go_enter Tryz.func116, Tryz.ntmps116
  go_wp2
  go_ret
  exact ⟨rfl, rfl⟩
set_option maxHeartbeats 1000000 in
theorem leer_at (a b : Nat) (w : World) (ha : ps a = true) (hb : ps b = true) : Calls Tryz.prog 117 #[.float .f64 a, .float .f64 b] w fun e w' => ∃ r, e = .returned (.float .f64 r) ∧ (∃ n, w' = w.drewN n) ∧ IsC r (lr a b) := by
  obtain ⟨a0, a1⟩ := ps_iff.1 ha
  obtain ⟨b0, b1⟩ := ps_iff.1 hb
  have fa := d2_facts a1
  have L := leer_nn a1 b1 a0 b0
  have h1 : ∀ t, (binOp .mul t (.float .f64 4611686018427387904) (.float .f64 a)).run Tryz.prog w = .ok (.float .f64 (mlB 4611686018427387904 a)) w := fun t => run_float_arith w .mul t .f64 _ _ _ (mul_pp (by decide) a1 (by decide) a0)
  have h2 : ∀ t, (binOp .mul t (.float .f64 (mlB 4611686018427387904 a)) (.float .f64 b)).run Tryz.prog w = .ok (.float .f64 (mlB (mlB 4611686018427387904 a) b)) w := fun t => run_float_arith w .mul t .f64 _ _ _ (mul_pp fa.1 b1 (by omega) b0)
  have h3 : ∀ t, (binOp .add t (.float .f64 a) (.float .f64 b)).run Tryz.prog w = .ok (.float .f64 (plB a b)) w := fun t => run_float_arith w .add t .f64 _ _ _ (add_pp a1 b1)
  obtain ⟨r, n, h4, hc⟩ := div_any (P := Tryz.prog) w (mlB (mlB 4611686018427387904 a) b) (plB a b)
  have hc : IsC r (leer a b) := hc
  obtain ⟨k1, k2⟩ := lr_le_of hc L
  have HL := lr_le a b
  by_cases c : leer a b < 9218868437227405312
  · have e : lr a b = leer a b := by unfold lr; rw [if_pos c]
    rw [decide_eq_true c] at k1
    have HC : Hid (IsC r (lr a b)) := by rw [e]; exact hc
    generalize mlB (mlB 4611686018427387904 a) b = q at *
    generalize mlB 4611686018427387904 a = p at *
    generalize plB a b = s at *
    clear e k2 c L fa a0 a1 b0 b1 ha hb HL
    clear hc
    go_enter Tryz.func117, Tryz.ntmps117
    go_wp2
    go_ret
    exact ⟨r, rfl, ⟨n, rfl⟩, HC.out⟩
  · have e : lr a b = 0 := by unfold lr; rw [if_neg c]
    rw [decide_eq_false c] at k1
    have HC : Hid (IsC 0 (lr a b)) := by rw [e]; exact ⟨by decide, by decide⟩
    generalize mlB (mlB 4611686018427387904 a) b = q at *
    generalize mlB 4611686018427387904 a = p at *
    generalize plB a b = s at *
    clear e k2 c L fa a0 a1 b0 b1 ha hb HL
    clear hc
    go_enter Tryz.func117, Tryz.ntmps117
    go_wp2
    go_ret
    exact ⟨0, rfl, ⟨n, rfl⟩, HC.out⟩
theorem run_store_func {P : Program} {w : World} {a : Addr} {m : Mode} (f : Fn) (x y : Array Value) : (store a (.func f x y) m).run P w = stored P w a (.func f x y) m := run_store P w a _ m rfl
attribute [local go_sem] run_store_func
set_option maxHeartbeats 1000000 in
theorem limiters_at (w : World) : Calls Tryz.prog 77 #[] w fun e w' => e = .returned (.agg #[.func (.func 114) #[] #[], .func (.func 115) #[] #[], .func (.func 116) #[] #[], .func (.func 117) #[] #[]]) ∧ Below w.heap.size w w' := by
  go_enter Tryz.func77, Tryz.ntmps77
  go_wp2
  refine bodyPost_ret ?_ rfl ⟨rfl, ?_⟩
  · exact results_cell_row Tryz.results77 _ _ w.heap.size _ _ (0, 0) _ rfl (heap_alloc_new w _) Tryz.underlying111 rfl (by kernel_rfl)
  · exact bl1 w _
set_option maxHeartbeats 1000000 in
theorem valid_at (k : Int) (w : World) : Calls Tryz.prog 43 #[.int .i64 k] w fun e w' => e = .returned (.bool (decide (0 ≤ k ∧ k ≤ 3))) ∧ Below w.heap.size w w' := by
  have L := hid (limiters_at w)
  by_cases c : 0 ≤ k
  · have e : decide (0 ≤ k ∧ k ≤ 3) = decide (k < 4) := by by_cases d : k < 4 <;> simp [d] <;> omega
    rw [e]
    clear e
    go_enter Tryz.func43, Tryz.ntmps43
    go_wp2_with fail
    refine L.out.mono ?_
    rintro e w1 ⟨rfl, b1⟩
    go_wp2
    go_ret
    exact ⟨rfl, b1⟩
  · have e : decide (0 ≤ k ∧ k ≤ 3) = false := decide_eq_false (by omega)
    rw [e]
    clear e
    go_enter Tryz.func43, Tryz.ntmps43
    go_wp2
    go_ret
    exact ⟨rfl, Below.refl _ _⟩
end Go.Proofs.YtgeipbegpflkhaaGreatDoor
