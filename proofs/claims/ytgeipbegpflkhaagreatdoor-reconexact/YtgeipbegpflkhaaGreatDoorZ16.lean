/-
  Some of the texts of this proof, one behind the other.
-/
import Derived.Test.YtgeipbegpflkhaaGreatDoorZ15
import Derived.Test.YtgeipbegpflkhaaGreatDoorZ08
import Derived.Test.YtgeipbegpflkhaaGreatDoorZ04
import Derived.Test.YtgeipbegpflkhaaGreatDoorZ10
import Derived.Test.YtgeipbegpflkhaaGreatDoorZ09
import Derived.Test.YtgeipbegpflkhaaGreatDoorZ06
import Derived.Test.YtgeipbegpflkhaaGreatDoorZ14
import Derived.Test.YtgeipbegpflkhaaGreatDoorZ03
import Derived.Test.YtgeipbegpflkhaaGreatDoorZ12
import Derived.Test.YtgeipbegpflkhaaGreatDoorZ13
import Derived.Test.YtgeipbegpflkhaaGreatDoorZ07
/-
  The depth over an edge, as a number: by plain numbers (no program).
-/
namespace Go.Proofs.YtgeipbegpflkhaaGreatDoor
open Tf Ieee
/-- what is above nothing, else +0 -/
def pos0 (r : Nat) : Nat := if fgt r 0 = true then r else 0
/-- the depth put forward by half a slope -/
def rcV (k : Int) (h hb hd : Nat) : Nat := plB h (mlB 4602678819172646912 (slp k (sbB h hb) (sbB hd h)))
/-- what stands above the higher bed -/
def rcG (l bu bd : Nat) : Nat := sbB l (maxB bu bd)
/-- the depth over an edge: of the depths here, behind and ahead, the level here and both beds -/
def rcR (k : Int) (h hb hd l bu bd : Nat) : Nat := pos0 (minB (rcV k h hb hd) (rcG l bu bd))
theorem pos0_lt {r : Nat} (h : r < 18446744073709551616) : pos0 r < 18446744073709551616 := by unfold pos0; split <;> omega
theorem isC_N {r c : Nat} (h : IsC r c) : isN r = isN c := by
  have e := h.2
  unfold canonB at e
  split at e
  · rename_i k; rw [k, ← e]; decide
  · rename_i k
    split at e
    · have n : isN r = false := by simpa using k
      rw [← e, n]; decide
    · rw [e]
theorem isC_or {r c : Nat} (h : IsC r c) (n : isN r = false) : (mg r = 0 ∧ c = 0) ∨ r = c := by
  have e := h.2
  unfold canonB at e
  rw [n] at e
  by_cases z : mg r = 0
  · exact .inl ⟨z, by simpa [z] using e.symm⟩
  · exact .inr (by simpa [z] using e)
theorem isC_ps {r c : Nat} (h : IsC r c) : ps r = ps c ∧ ns r = ns c := by
  cases n : isN r
  · rcases isC_or h n with ⟨z, rfl⟩ | rfl
    · have m := h.1
      have : r = 0 ∨ r = 9223372036854775808 := by unfold mg at z; omega
      rcases this with rfl | rfl <;> decide
    · exact ⟨rfl, rfl⟩
  · have nc : isN c = true := by rw [← isC_N h]; exact n
    have a := isN_true.1 n
    have b := isN_true.1 nc
    have c2 : c < 18446744073709551616 := by
      have := h.2
      rw [← this]
      unfold canonB
      rw [n, if_pos rfl]
      decide
    have h1 := h.1
    unfold mg at a b
    refine ⟨?_, ?_⟩
    · rw [ps_no.2 (by omega), ps_no.2 (by omega)]
    · rw [ns_no.2 (by omega), ns_no.2 (by omega)]
theorem slp_c (k : Int) {r c s d : Nat} (h : IsC r c) (g : IsC s d) (hr : ∀ _ : ps r = true ∨ ns r = true, r = c) (hs : ∀ _ : ps s = true ∨ ns s = true, s = d) : slp k r s = slp k c d := by
  have a := isC_ps h
  have b := isC_ps g
  by_cases p : (ps r && ps s) = true
  · have q := (Bool.and_eq_true _ _).mp p
    rw [hr (.inl q.1), hs (.inl q.2)]
  · by_cases n : (ns r && ns s) = true
    · have q := (Bool.and_eq_true _ _).mp n
      rw [hr (.inr q.1), hs (.inr q.2)]
    · have p' : (ps r && ps s) = false := by simpa using p
      have n' : (ns r && ns s) = false := by simpa using n
      rw [slp_z p' n', slp_z (by rw [← a.1, ← b.1]; exact p') (by rw [← a.2, ← b.2]; exact n')]
theorem isC_pn {r c : Nat} (h : IsC r c) (k : ps r = true ∨ ns r = true) : r = c := by
  have e := h.2
  have h1 := h.1
  have n : isN r = false := isN_false.2 (by
    rcases k with k | k
    · have := ps_iff.1 k; unfold mg; omega
    · have := ns_iff.1 k; unfold mg; omega)
  rcases isC_or h n with ⟨z, rfl⟩ | e
  · exfalso
    rcases k with k | k
    · have := ps_iff.1 k; unfold mg at z; omega
    · have := ns_iff.1 k; unfold mg at z; omega
  · exact e
/-- a slope of differences as they come is that of the differences in one form -/
theorem slp_raw (k : Int) {r c s d : Nat} (h : IsC r c) (g : IsC s d) : slp k r s = slp k c d := slp_c k h g (isC_pn h) (isC_pn g)
theorem slp_N (k : Int) (a b : Nat) : isN (slp k a b) = false := by
  unfold slp
  split
  · rename_i c
    have q := (Bool.and_eq_true _ _).mp c
    exact nn_N (lm_le k (ps_iff.1 q.1).2 (ps_iff.1 q.2).2)
  · split
    · rename_i c
      have q := (Bool.and_eq_true _ _).mp c
      have a1 := ns_iff.1 q.1
      have b1 := ns_iff.1 q.2
      have l := lm_le k (a := a - 9223372036854775808) (b := b - 9223372036854775808) (by omega) (by omega)
      refine isN_false.2 ?_
      unfold op
      split
      · unfold mg; omega
      · unfold mg; omega
    · decide
theorem minB_q {r v g : Nat} (h : IsQ r v) : minB r g = minB v g := by
  have e := h.2
  unfold qB at e
  split at e
  · rename_i n
    have nv : isN v = true := by rw [← e]; decide
    unfold minB
    rw [if_pos (by simp [n]), if_pos (by simp [nv])]
  · rw [e]
theorem minB_lt {a b : Nat} (ha : a < 18446744073709551616) (hb : b < 18446744073709551616) : minB a b < 18446744073709551616 := by
  unfold minB
  split
  · decide
  · split <;> assumption
/-- the lesser of two numbers: it is one of them, and not above either -/
theorem minB_num {a b : Nat} (ha : a < 18446744073709551616) (hb : b < 18446744073709551616) (na : isN a = false) (nb : isN b = false) :
    (minB a b = a ∨ minB a b = b) ∧ rk (minB a b) ≤ rk a ∧ rk (minB a b) ≤ rk b := by
  unfold minB
  rw [na, nb, if_neg (by decide)]
  have key : ∀ x y : Nat, x < 18446744073709551616 → y < 18446744073709551616 → placeB x ≤ placeB y → rk x ≤ rk y := by
    intro x y hx hy h
    unfold placeB at h
    unfold rk
    cases gx : ng x <;> cases gy : ng y <;> simp only [gx, gy, if_true, if_false, Bool.false_eq_true] at h ⊢ <;> unfold ng at gx gy <;> simp only [decide_eq_true_eq, decide_eq_false_iff_not] at gx gy <;> unfold mg <;> omega
  split
  · rename_i c
    exact ⟨.inr rfl, key _ _ hb ha (by omega), Int.le_refl _⟩
  · rename_i c
    exact ⟨.inl rfl, Int.le_refl _, key _ _ ha hb (by omega)⟩
theorem minB_nan {a b : Nat} (h : isN a = true ∨ isN b = true) : minB a b = quiet := by
  unfold minB
  rw [if_pos (by rcases h with h | h <;> simp [h])]
theorem pos0_q : pos0 quiet = 0 := by decide
theorem fgt_rk0 {x : Nat} (hx : x < 18446744073709551616) (n : isN x = false) : fgt x 0 = decide (0 < rk x) := by
  cases e : fgt x 0
  · symm
    rw [decide_eq_false_iff_not]
    intro h
    have := (fgt_iff (b := 0) hx (by decide)).2 ⟨n, by decide, by rw [rk_zero]; exact h⟩
    rw [e] at this; cases this
  · have := ((fgt_iff hx (by decide)).1 e).2.2
    rw [rk_zero] at this
    rw [decide_eq_true this]
/-- of a difference in another form of nothing it is the same -/
theorem pos0_c {v r g : Nat} (hv : v < 18446744073709551616) (h : IsC r g) : pos0 (minB v r) = pos0 (minB v g) := by
  cases nv : isN v
  · cases nr : isN r
    · rcases isC_or h nr with ⟨z, rfl⟩ | rfl
      · have m1 := minB_num hv h.1 nv nr
        have m2 := minB_num hv (b := 0) (by decide) nv (by decide)
        have r0 : rk r = 0 := by unfold rk; rw [z]; simp
        have l1 := minB_lt hv h.1
        have l2 := minB_lt hv (b := 0) (by decide)
        have z1 : pos0 (minB v r) = 0 := by
          unfold pos0
          rw [if_neg]
          intro q
          have := ((fgt_iff l1 (by decide)).1 q).2.2
          rw [rk_zero] at this
          omega
        have z2 : pos0 (minB v 0) = 0 := by
          unfold pos0
          rw [if_neg]
          intro q
          have := ((fgt_iff l2 (by decide)).1 q).2.2
          rw [rk_zero] at this m2
          omega
        rw [z1, z2]
      · rfl
    · rw [minB_nan (.inr nr), minB_nan (.inr (by rw [← isC_N h]; exact nr))]
  · rw [minB_nan (.inl nv), minB_nan (.inl nv)]
end Go.Proofs.YtgeipbegpflkhaaGreatDoor

/-
  The depth over an edge: what it is held against (by plain numbers, no program).
-/
namespace Go.Proofs.YtgeipbegpflkhaaGreatDoor
open Tf Ieee
theorem pos0_or (r : Nat) : fgt (pos0 r) 0 = true ∨ pos0 r = 0 := by
  by_cases c : fgt r 0 = true
  · left; unfold pos0; rw [if_pos c]; exact c
  · right; unfold pos0; rw [if_neg c]
theorem pos0_yes {r : Nat} (h : fgt (pos0 r) 0 = true) : pos0 r = r ∧ fgt r 0 = true := by
  by_cases c : fgt r 0 = true
  · exact ⟨by unfold pos0; rw [if_pos c], c⟩
  · unfold pos0 at h
    rw [if_neg c] at h
    exact absurd h (by decide)
/-- where it is above nothing it is the lesser of both -/
theorem gate_yes {v g : Nat} (hv : v < 18446744073709551616) (hg : g < 18446744073709551616) (h : fgt (pos0 (minB v g)) 0 = true) :
    fgt (pos0 (minB v g)) v = false ∧ fgt (pos0 (minB v g)) g = false ∧ (feq (pos0 (minB v g)) v = true ∨ feq (pos0 (minB v g)) g = true) := by
  obtain ⟨e, f⟩ := pos0_yes h
  rw [e]
  have hm := minB_lt hv hg
  cases nv : isN v
  · cases ng : isN g
    · obtain ⟨o, a, b⟩ := minB_num hv hg nv ng
      have nm : isN (minB v g) = false := by rcases o with o | o <;> rw [o] <;> assumption
      refine ⟨?_, ?_, ?_⟩
      · cases q : fgt (minB v g) v
        · rfl
        · have := ((fgt_iff hm hv).1 q).2.2
          omega
      · cases q : fgt (minB v g) g
        · rfl
        · have := ((fgt_iff hm hg).1 q).2.2
          omega
      · rcases o with o | o
        · left; rw [o, feq_rk v v hv hv, nv]; simp
        · right; rw [o, feq_rk g g hg hg, ng]; simp
    · rw [minB_nan (.inr ng)] at f; exact absurd f (by decide)
  · rw [minB_nan (.inl nv)] at f; exact absurd f (by decide)
theorem gate_no {v g : Nat} (hv : v < 18446744073709551616) (hg : g < 18446744073709551616) (h : fgt (pos0 (minB v g)) 0 = false) : (fgt v 0 && fgt g 0) = false := by
  cases a : fgt v 0
  · rfl
  · cases b : fgt g 0
    · rfl
    · exfalso
      have pa := (fgt_iff hv (b := 0) (by decide)).1 a
      have pb := (fgt_iff hg (b := 0) (by decide)).1 b
      obtain ⟨o, -, -⟩ := minB_num hv hg pa.1 pb.1
      have f : fgt (minB v g) 0 = true := by rcases o with o | o <;> rw [o] <;> assumption
      unfold pos0 at h
      rw [if_pos f, f] at h
      cases h
theorem rn_mv11 {d : Nat} (h : d ≤ 9218868437227405312) : rn false (mv d : Int) = d := by
  rw [rn_nn (Int.natCast_nonneg _), (R_mv d h).1]
  exact Int.toNat_natCast d
theorem sv_z : sv 9223372036854775808 = 0 := by
  have h : sv 9223372036854775808 = -((mv 0 : Nat) : Int) := rfl
  rw [h, show mv 0 = 0 by decide]
  rfl
theorem sv_0 : sv 0 = 0 := by
  rw [sv_nn (by decide), show mv 0 = 0 by decide]
  rfl
theorem add_0l {d : Nat} (h : d < 9218868437227405312) : addB 0 d = d := by
  have m : mg d = d := mg_of_lt (by omega)
  rw [addB_fin 0 d (by decide) (by omega) (by decide) (by omega), sv_nn (d := d) (by omega), sv_0, Int.zero_add]
  exact rn_mv11 (by omega)
theorem sb_0r {d : Nat} (h : d < 9218868437227405312) : sbB d 0 = d := by
  have m : mg d = d := mg_of_lt (by omega)
  unfold sbB
  rw [show negB 0 = 9223372036854775808 by decide, addB_fin d _ (by omega) (by decide) (by omega) (by decide), sv_nn (d := d) (by omega), sv_z, Int.add_zero]
  exact rn_mv11 (by omega)
/-- a sum of what isn't below nothing with a finite number -/
theorem pl_fin {h f : Nat} (hh : h < 9218868437227405312) (hf : f < 18446744073709551616) (ff : mg f < 9218868437227405312) : plB h f = rn false ((mv h : Int) + sv f) := by
  have m : mg h = h := mg_of_lt (by omega)
  rw [plB_some (add_d h f (by omega) hf (by omega) ff), ng_of_lt (x := h) (by omega), sv_nn (d := h) (by omega)]
  rfl
theorem pl_0r {h : Nat} (hh : h < 9218868437227405312) : plB h 0 = h := by
  rw [pl_fin hh (by decide) (by decide), sv_0, Int.add_zero]
  exact rn_mv11 (by omega)
theorem ml_h0 : mlB 4602678819172646912 0 = 0 := by decide +kernel
theorem minB_nn {a b : Nat} (ha : a ≤ 9218868437227405312) (hb : b ≤ 9218868437227405312) : minB a b = min a b := by
  unfold minB
  rw [nn_N ha, nn_N hb, if_neg (by decide)]
  unfold placeB
  rw [ng_of_lt (x := a) (by omega), ng_of_lt (x := b) (by omega)]
  simp only [Bool.false_eq_true, if_false]
  split <;> omega
theorem pos0_nn {h : Nat} (hh : h ≤ 9218868437227405312) : pos0 h = h := by
  unfold pos0
  rw [fgt_nn hh (by decide)]
  by_cases c : 0 < h
  · rw [if_pos (decide_eq_true c)]
  · rw [if_neg (by rw [decide_eq_false c]; decide)]
    omega
/-- over a flat bed: the depth put forward, and no more than the depth here -/
theorem flat_R (k : Int) {h hb hd : Nat} (hh : h < 9218868437227405312) : rcR k h hb hd (addB 0 h) 0 0 = pos0 (minB (rcV k h hb hd) h) := by
  unfold rcR rcG
  rw [add_0l hh, show maxB 0 0 = 0 by decide, sb_0r hh]
theorem flat_z {k : Int} {h hb hd : Nat} (hh : h < 9218868437227405312) (hs : slp k (sbB h hb) (sbB hd h) = 0) : pos0 (minB (rcV k h hb hd) h) = h := by
  unfold rcV
  rw [hs, ml_h0, pl_0r hh, minB_nn (by omega) (by omega), Nat.min_self]
  exact pos0_nn (by omega)
theorem flat_le {v h : Nat} (hv : v < 18446744073709551616) (hh : h < 9218868437227405312) : (flt (pos0 (minB v h)) h || feq (pos0 (minB v h)) h) = true := by
  have nh : isN h = false := nn_N (by omega)
  have rh : rk h = (h : Int) := by
    unfold rk
    rw [ng_of_lt (by omega), mg_of_lt (by omega)]
    rfl
  cases nv : isN v
  · obtain ⟨o, a, b⟩ := minB_num hv (b := h) (by omega) nv nh
    have nm : isN (minB v h) = false := by rcases o with o | o <;> rw [o] <;> assumption
    have lm := minB_lt hv (b := h) (by omega)
    unfold pos0
    split
    · rw [fle_of lm (by omega) nm nh]
      exact decide_eq_true b
    · rw [fle_of (by decide) (by omega) (by decide) nh, rk_zero, rh]
      exact decide_eq_true (by omega)
  · rw [minB_nan (.inl nv), pos0_q, fle_of (by decide) (by omega) (by decide) nh, rk_zero, rh]
    exact decide_eq_true (by omega)
end Go.Proofs.YtgeipbegpflkhaaGreatDoor

/-
  The depth over an edge by sides of cells, and turns: by plain numbers (no program).
-/
namespace Go.Proofs.YtgeipbegpflkhaaGreatDoor
open Tf Ieee Cu
/-- the depth from one cell into another, by their areas, beds and waters -/
def ovC (k : Int) (A : Nat → Int) (B : Nat → Nat) (W : Nat → Int) (up down back : Nat) : Nat :=
  rcR k (dpB (W up) (A up)) (dpB (W back) (A back)) (dpB (W down) (A down)) (lvl (B up) (W up) (A up)) (B up) (B down)
/-- the cell behind the cell of a side -/
def bkC (n t : Nat) : Nat := bsC n (t / 4) ((t % 4 + 2) % 4)
/-- the depth over a side, out of its cell -/
def sdD (n : Nat) (k : Int) (A : Nat → Int) (B : Nat → Nat) (W : Nat → Int) (t : Nat) : Nat := ovC k A B W (t / 4) (mt n t / 4) (bkC n t)
/-- the depth over an edge, by its Left's side and the speed -/
def rdT (n : Nat) (k : Int) (A : Nat → Int) (B : Nat → Nat) (W : Nat → Int) (t u : Nat) : Nat :=
  if fgt u 0 = true then sdD n k A B W t else if flt u 0 = true then sdD n k A B W (mt n t) else 0
theorem ovC_or (k : Int) (A : Nat → Int) (B : Nat → Nat) (W : Nat → Int) (a b c : Nat) : fgt (ovC k A B W a b c) 0 = true ∨ ovC k A B W a b c = 0 := pos0_or _
theorem rdT_or (n : Nat) (k : Int) (A : Nat → Int) (B : Nat → Nat) (W : Nat → Int) (t u : Nat) : fgt (rdT n k A B W t u) 0 = true ∨ rdT n k A B W t u = 0 := by
  unfold rdT
  split
  · exact ovC_or _ _ _ _ _ _ _
  · split
    · exact ovC_or _ _ _ _ _ _ _
    · exact .inr rfl
/-- one is above nothing, the opposite below -/
theorem sgn_1 : fgt 4607182418800017408 0 = true ∧ flt 4607182418800017408 0 = false ∧ fgt 13830554455654793216 0 = false ∧ flt 13830554455654793216 0 = true ∧ fgt 0 0 = false ∧ flt 0 0 = false := by decide
theorem rdT_p {n : Nat} {k : Int} {A : Nat → Int} {B : Nat → Nat} {W : Nat → Int} {t u : Nat} (h : fgt u 0 = true) : rdT n k A B W t u = sdD n k A B W t := by unfold rdT; rw [if_pos h]
theorem rdT_n {n : Nat} {k : Int} {A : Nat → Int} {B : Nat → Nat} {W : Nat → Int} {t u : Nat} (h : fgt u 0 = false) (g : flt u 0 = true) : rdT n k A B W t u = sdD n k A B W (mt n t) := by unfold rdT; rw [if_neg (by rw [h]; decide), if_pos g]
theorem rdT_0 {n : Nat} {k : Int} {A : Nat → Int} {B : Nat → Nat} {W : Nat → Int} {t u : Nat} (h : fgt u 0 = false) (g : flt u 0 = false) : rdT n k A B W t u = 0 := by unfold rdT; rw [if_neg (by rw [h]; decide), if_neg (by rw [g]; decide)]
/-- a side that is turned -/
def tnT (n r t : Nat) : Nat := 4 * tnC n r (t / 4) + (t % 4 + tnS n r (t / 4)) % 4
theorem tnT_dec (n r t : Nat) : tnT n r t / 4 = tnC n r (t / 4) ∧ tnT n r t % 4 = (t % 4 + tnS n r (t / 4)) % 4 := by unfold tnT; omega
theorem tnT_lt {n r t : Nat} (hn : 1 ≤ n) (ht : t < 24 * n * n) (hr : r < 24) : tnT n r t < 24 * n * n := by
  have g := turned_geo (k := t / 4) hn rfl (t_cell ht) (show t % 4 < 4 by omega) hr (t_cell ht)
  exact t_lt g.1.1 (by omega)
theorem mt_tn {n r t : Nat} (hn : 1 ≤ n) (ht : t < 24 * n * n) (hr : r < 24) : mt n (tnT n r t) = tnT n r (mt n t) := by
  have g := turned_geo (k := t / 4) hn rfl (t_cell ht) (show t % 4 < 4 by omega) hr (t_cell ht)
  have d := tnT_dec n r t
  have m := mt_dec hn ht
  unfold mt
  rw [d.1, d.2, g.2.1, g.2.2.1]
  show _ = tnT n r (mt n t)
  unfold tnT
  rw [m.1, m.2]
theorem bk_tn {n r t : Nat} (hn : 1 ≤ n) (ht : t < 24 * n * n) (hr : r < 24) : bkC n (tnT n r t) = tnC n r (bkC n t) := by
  have g := turned_geo (s := (t % 4 + 2) % 4) (k := t / 4) hn rfl (t_cell ht) (by omega) hr (t_cell ht)
  have d := tnT_dec n r t
  unfold bkC
  rw [d.1, d.2, ← g.2.1]
  congr 1
  omega
theorem bk_lt {n t : Nat} (hn : 1 ≤ n) (ht : t < 24 * n * n) : bkC n t < 6 * n * n := by
  have g := turned_geo (s := (t % 4 + 2) % 4) (t := 0) (k := t / 4) hn rfl (t_cell ht) (by omega) (by decide) (t_cell ht)
  exact g.1.2.2.1
/-- a turned sea has the same depth over a turned side -/
theorem sd_tn {n r t : Nat} {k : Int} {A A' : Nat → Int} {B B' : Nat → Nat} {W W' : Nat → Int} (hn : 1 ≤ n) (ht : t < 24 * n * n) (hr : r < 24)
    (hA : ∀ c, c < 6 * n * n → A' (tnC n r c) = A c) (hB : ∀ c, c < 6 * n * n → B' (tnC n r c) = B c) (hW : ∀ c, c < 6 * n * n → W' (tnC n r c) = W c) : sdD n k A' B' W' (tnT n r t) = sdD n k A B W t := by
  have d := tnT_dec n r t
  have m := mt_lt hn ht
  have d2 := tnT_dec n r (mt n t)
  have c1 := t_cell ht
  have c2 := t_cell m
  have c3 := bk_lt hn ht
  unfold sdD ovC
  rw [mt_tn hn ht hr, bk_tn hn ht hr, d.1, d2.1, hA _ c1, hA _ c2, hA _ c3, hB _ c1, hB _ c2, hW _ c1, hW _ c2, hW _ c3]
/-- the edge over a side, and the sign with which the side is its Left -/
theorem rd_side {n t u v : Nat} {k : Int} {A : Nat → Int} {B : Nat → Nat} {W : Nat → Int} (hn : 1 ≤ n) (ht : t < 24 * n * n)
    (hu : (fgt u 0 = true ∧ fgt v 0 = false ∧ flt v 0 = true) ∨ (fgt u 0 = false ∧ flt u 0 = true ∧ fgt v 0 = true)) :
    rdT n k A B W (mt n t) v = rdT n k A B W t u := by
  rcases hu with ⟨h1, h2, h3⟩ | ⟨h1, h2, h3⟩
  · rw [rdT_p h1, rdT_n h2 h3, mt_mt hn ht]
  · rw [rdT_n h1 h2, rdT_p h3]
/-- it hangs on three cells alone, of the one behind on its water -/
theorem sd_local {n t : Nat} {k : Int} {A : Nat → Int} {B B' : Nat → Nat} {W W' : Nat → Int} (b1 : B (t / 4) = B' (t / 4)) (b2 : B (mt n t / 4) = B' (mt n t / 4)) (w1 : W (t / 4) = W' (t / 4)) (w2 : W (mt n t / 4) = W' (mt n t / 4)) (w3 : W (bkC n t) = W' (bkC n t)) : sdD n k A B W t = sdD n k A B' W' t := by
  unfold sdD ovC
  rw [b1, b2, w1, w2, w3]
end Go.Proofs.YtgeipbegpflkhaaGreatDoor

/-
  The depth over an edge of a flat bed: by plain numbers (no program).
-/
namespace Go.Proofs.YtgeipbegpflkhaaGreatDoor
open Tf Ieee
theorem dp_least : dpB 1 9223372036854775807 = 4323455642275676160 := by decide +kernel
/-- a depth is nothing or at least 2^-63 -/
theorem dp_low {w a : Int} (w2 : w ≤ 9223372036854775807) (a2 : a ≤ 9223372036854775807) : dpB w a = 0 ∨ (4323455642275676160 ≤ dpB w a ∧ dpB w a ≤ 9146810843189477376) := by
  by_cases c : w < 1 ∨ a < 1
  · exact .inl (dp_zero c)
  · right
    have h1 := dp_mono (w := 1) (w' := w) (a := a) (by omega) w2 a2
    have h2 := dp_anti (w := 1) (a := a) (a' := 9223372036854775807) (by omega) a2 (by decide) (by decide)
    rw [dp_least] at h2
    exact ⟨by omega, dp_le w2 a2⟩
/-- half of what isn't small -/
theorem half_of {h : Nat} (h1 : 9007199254740992 ≤ h) (h2 : h < 9218868437227405312) : mlB 4602678819172646912 h = h - 4503599627370496 ∧ mv h = 2 * mv (h - 4503599627370496) := by
  obtain ⟨g, rfl⟩ : ∃ g, h = g + 4503599627370496 := ⟨h - 4503599627370496, by omega⟩
  rw [Nat.add_sub_cancel]
  have d := mv_dbl (r := g) (by omega)
  refine ⟨?_, d⟩
  have e := mul_exact 4602678819172646912 (g + 4503599627370496) g (by decide) (by decide) h2 (by omega) (by
    rw [show mg 4602678819172646912 = 4602678819172646912 by decide, d, ← Nat.mul_assoc, Nat.mul_comm (mv 4602678819172646912) 2, mv_half, Nat.mul_comm])
  rw [mlB_some e]
  rfl
theorem half_neg {p : Nat} (hp : p < 9218868437227405312) : mlB 4602678819172646912 (p + 9223372036854775808) = mlB 4602678819172646912 p + 9223372036854775808 := by
  have mp : mg p = p := mg_of_lt (by omega)
  have mq : mg (p + 9223372036854775808) = p := by unfold mg; omega
  have nq : ng (p + 9223372036854775808) = true := ng_of_ge (by omega)
  rw [mul_w (by decide) (by omega) (by decide) (by omega), mul_w (by decide) (by omega) (by decide) (by omega), mp, mq, nq, ng_of_lt (x := p) (by omega), show ng 4602678819172646912 = false by decide]
  simp only [Bool.false_xor, if_true, Bool.false_eq_true, if_false]
  exact Nat.add_comm _ _
/-- a difference of two depths -/
theorem sb_nn {x y : Nat} (hx : x < 9218868437227405312) (hy : y < 9218868437227405312) : sbB x y = rn false ((mv x : Int) - mv y) := by
  have mx : mg x = x := mg_of_lt (by omega)
  have my : mg y = y := mg_of_lt (by omega)
  have e := sub_d x y (by omega) (by omega) (by omega) (by omega)
  rw [sub_add x y (by omega)] at e
  unfold sbB
  rw [addB_some e, canon_rn, sv_nn (d := x) (by omega), sv_nn (d := y) (by omega)]
theorem rn_ng {v : Int} (h : v < 0) : rn false v = 9223372036854775808 + (R (-v)).toNat := by
  have e : (-v).natAbs = v.natAbs := Int.natAbs_neg v
  unfold rn R
  rw [e, if_neg (show ¬ v = 0 by omega), decide_eq_true h, if_pos rfl, if_neg (show ¬ -v < 0 by omega)]
  generalize min (rung 52 0 v.natAbs) 9218868437227405312 = m
  rw [Int.toNat_natCast]
/-- a slope is nothing where the depths don't go on one way -/
theorem slp_turn (k : Int) {h b n : Nat} (hh : h < 9218868437227405312) (hb : b < 9218868437227405312) (hn : n < 9218868437227405312) (q : (b ≤ h ∧ n ≤ h) ∨ (h ≤ b ∧ h ≤ n)) : slp k (sbB h b) (sbB n h) = 0 := by
  have up : ∀ {x y : Nat}, x < 9218868437227405312 → y < 9218868437227405312 → y ≤ x → ns (sbB x y) = false := fun {x y} hx hy l => by
    rw [sb_nn hx hy, rn_nn (by have := mv_le.2 l; omega)]
    have := R_top ((mv x : Int) - mv y)
    exact ns_no.2 (by omega)
  have dn : ∀ {x y : Nat}, x < 9218868437227405312 → y < 9218868437227405312 → x ≤ y → ps (sbB x y) = false := fun {x y} hx hy l => by
    by_cases e : x = y
    · subst e
      rw [sb_nn hx hy, Int.sub_self, show rn false 0 = 0 by decide]
      decide
    · have := mv_lt.2 (show x < y by omega)
      rw [sb_nn hx hy, rn_ng (by omega)]
      exact ps_no.2 (by omega)
  rcases q with ⟨q1, q2⟩ | ⟨q1, q2⟩
  · exact slp_z (by rw [dn hn hh q2, Bool.and_false]) (by rw [up hh hb q1, Bool.false_and])
  · exact slp_z (by rw [dn hh hb q1, Bool.false_and]) (by rw [up hn hh q2, Bool.and_false])
theorem lm_1 (a b : Nat) : lm 1 a b = min a b := by unfold lm; rw [if_pos rfl]
theorem min_in {X Y s h c : Nat} (hs : min (X - c) (Y - c) = s) (y : Y - c ≤ h) (a : c < X) (b : c < Y) : s ≤ h ∧ 0 < s := by omega
theorem add_in {t h c l : Nat} (a : t ≤ h - c) (b : h < l) : t < l := by omega
/-- by Minmod it is no less than half the depth here -/
theorem flat_half {h b n : Nat} (hh : h = 0 ∨ (9007199254740992 ≤ h ∧ h < 9218868437227405312)) (_hb : b < 9218868437227405312) (hn : n < 9218868437227405312) : mlB 4602678819172646912 h ≤ pos0 (minB (rcV 1 h b n) h) ∧ pos0 (minB (rcV 1 h b n) h) ≤ 9218868437227405312 := by
  have hl : h < 9218868437227405312 := by omega
  have half : mlB 4602678819172646912 h ≤ h := by
    rcases hh with rfl | hh
    · rw [ml_h0]; exact Nat.le_refl _
    · rw [(half_of hh.1 hh.2).1]; omega
  by_cases p : (ps (sbB h b) && ps (sbB n h)) = true
  · have q := (Bool.and_eq_true _ _).mp p
    have a1 := ps_iff.1 q.1
    have a2 := ps_iff.1 q.2
    have e : slp 1 (sbB h b) (sbB n h) = min (sbB h b) (sbB n h) := by rw [slp_p q.1 q.2]; rfl
    have u := ml_nn (x := 4602678819172646912) (y := min (sbB h b) (sbB n h)) (by decide) (by omega) (by decide) (by omega)
    have v := plB_nn (a := h) (by omega) u
    unfold rcV
    rw [e, minB_nn v.1 (by omega), Nat.min_eq_right v.2.1, pos0_nn (by omega)]
    omega
  · by_cases m : (ns (sbB h b) && ns (sbB n h)) = true
    · have q := (Bool.and_eq_true _ _).mp m
      have a1 := ns_iff.1 q.1
      have a2 := ns_iff.1 q.2
      have l : n < h := by
        by_cases l : n < h
        · exact l
        · exfalso
          have g := mv_le.2 (show h ≤ n by omega)
          rw [sb_nn hn hl, rn_nn (by omega)] at a2
          have := R_top ((mv n : Int) - mv h)
          omega
      have h2 : 9007199254740992 ≤ h := by omega
      obtain ⟨e1, e2⟩ := half_of h2 hl
      have y : sbB n h - 9223372036854775808 ≤ h := by
        have g := mv_lt.2 l
        rw [sb_nn hn hl, rn_ng (by omega)]
        have r := R_mono (show -((mv n : Int) - mv h) ≤ (mv h : Int) by omega)
        rw [(R_mv h (by omega)).1] at r
        omega
      obtain ⟨s, hs⟩ : ∃ s, min (sbB h b - 9223372036854775808) (sbB n h - 9223372036854775808) = s := ⟨_, rfl⟩
      have e : slp 1 (sbB h b) (sbB n h) = s + 9223372036854775808 := by
        have s0 := (min_in hs y a1.1 a2.1).2
        rw [slp_n q.1 q.2, lm_1, hs]
        unfold op
        rw [if_neg (Nat.ne_of_gt s0)]
      obtain ⟨sl, s0⟩ := min_in hs y a1.1 a2.1
      clear hs y a1 a2
      have mm := ml_mono (x := s) (x' := h) (f := 4602678819172646912) sl (by omega) s0 (by decide) (by decide)
      rw [mlB_comm s, mlB_comm h, e1] at mm
      obtain ⟨t, ht⟩ : ∃ t, mlB 4602678819172646912 s = t := ⟨_, rfl⟩
      rw [ht] at mm
      have st : sv (t + 9223372036854775808) = -(mv t : Int) := by
        unfold sv
        rw [ng_of_ge (by omega), show mg (t + 9223372036854775808) = t by unfold mg; omega]
        rfl
      have ev : rcV 1 h b n = rn false ((mv h : Int) - mv t) := by
        unfold rcV
        rw [e, half_neg (by omega), ht, pl_fin hl (by omega) (by unfold mg; omega), st, Int.sub_eq_add_neg]
      have g := mv_le.2 mm
      rw [rn_nn (by omega)] at ev
      have r := R_mono (show ((mv (h - 4503599627370496) : Nat) : Int) ≤ (mv h : Int) - mv t by omega)
      rw [(R_mv _ (by omega)).1] at r
      have r2 := R_mono (show (mv h : Int) - mv t ≤ (mv h : Int) by omega)
      rw [(R_mv _ (by omega)).1] at r2
      rw [ev, minB_nn (by omega) (by omega), Nat.min_eq_left (by omega), pos0_nn (by omega), e1]
      omega
    · rw [flat_z hl (slp_z (by simpa using p) (by simpa using m))]
      exact ⟨half, by omega⟩
end Go.Proofs.YtgeipbegpflkhaaGreatDoor

/-
  The depth over an edge at all arguments, as a number; its operations as the program runs them (no walk).
-/
namespace Go.Proofs.YtgeipbegpflkhaaGreatDoor
open Go.RowKit Tf Cu
theorem arI_top (L : Nat) : 1 ≤ arI L ∧ arI L ≤ 9223372036854775807 := by
  have h : cI .even (arQ L) ≤ 9223372036854775807 := by
    unfold cI
    split
    · rename_i c
      unfold cOk at c
      simp only [Bool.and_eq_true, decide_eq_true_eq] at c
      omega
    · decide
  unfold arI
  omega
/-- the area of a cell -/
def arC (n c : Nat) : Int := arI (ArC n c)
theorem arC_in (n c : Nat) : 1 ≤ arC n c ∧ arC n c ≤ 9223372036854775807 := arI_top _
/-- the depth at all arguments -/
def rdAll (n : Nat) (k : Int) (lb lw : Nat) (B : Nat → Nat) (W : Nat → Int) (e : Int) (u : Nat) : Nat :=
  if inR e (12 * n * n : Nat) = true ∧ lb = 6 * n * n ∧ lw = 6 * n * n then rdT n k (arC n) B W (edT n e.toNat) u else 0
theorem half_some {s : Nat} (hs : s < 18446744073709551616) (h : isN s = false) : Ieee.double.mul 4602678819172646912 s = some (mlB 4602678819172646912 s) := by
  have k : Ieee.double.mul 4602678819172646912 s ≠ none := by
    rcases three s with c | c | c
    · rw [mul_d 4602678819172646912 s (by decide) hs (by decide) c]; exact Option.some_ne_none _
    · rw [mul_fi 4602678819172646912 s (by decide) hs (by decide) c, if_neg (by decide)]; exact Option.some_ne_none _
    · rw [h] at c; cases c
  cases e : Ieee.double.mul 4602678819172646912 s with
  | none => exact absurd e k
  | some r => rw [mlB_some e]
theorem half_N {s : Nat} (hs : s < 18446744073709551616) (h : isN s = false) : isN (mlB 4602678819172646912 s) = false ∧ mlB 4602678819172646912 s < 18446744073709551616 := by
  have e := half_some hs h
  exact ⟨(mul_fact e (by decide) hs).2, (mul_fact e (by decide) hs).1⟩
theorem plus_some {h f : Nat} (hh : h < 9218868437227405312) (hf : f < 18446744073709551616) (nf : isN f = false) : Ieee.double.add h f = some (plB h f) := by
  have mh : mg h < 9218868437227405312 := by rw [mg_of_lt (by omega)]; exact hh
  have k : Ieee.double.add h f ≠ none := by
    rcases three f with c | c | c
    · rw [add_d h f (by omega) hf mh c]; exact Option.some_ne_none _
    · rw [add_fi h f hf mh c]; exact Option.some_ne_none _
    · rw [nf] at c; cases c
  cases e : Ieee.double.add h f with
  | none => exact absurd e k
  | some r => rw [plB_some e]
theorem minus_some {x y : Nat} (hx : x < 9218868437227405312) (hy : y < 9218868437227405312) : Ieee.double.sub x y = some (sbB x y) := by
  have mx : mg x < 9218868437227405312 := by rw [mg_of_lt (by omega)]; exact hx
  have my : mg y < 9218868437227405312 := by rw [mg_of_lt (by omega)]; exact hy
  rw [sub_d x y (by omega) (by omega) mx my, sb_nn hx hy, sv_nn (d := x) (by omega), sv_nn (d := y) (by omega), ng_of_lt (x := x) (by omega)]
  rfl
theorem rcV_lt {k : Int} {h hb hd : Nat} (hh : h < 9218868437227405312) : rcV k h hb hd < 18446744073709551616 := by
  have s := half_N (slp_lt k (sbB h hb) (sbB hd h)) (slp_N k _ _)
  have e := plus_some hh s.2 s.1
  unfold rcV
  exact (IsQ.add (IsQ.self (by omega)) (IsQ.self s.2) e).1
theorem sub_isC {l m g : Nat} (hm : m < 18446744073709551616) (e : Ieee.double.sub l m = some g) (hl : l < 18446744073709551616) : IsC g (sbB l m) := by
  have ea : Ieee.double.add l (negB m) = some g := by rw [← sub_add l m hm]; exact e
  exact ⟨(add_facts hl (negB_lt' hm) ea).1, by unfold sbB; rw [addB_some ea]⟩
theorem IsFl.at0 {w : World} {b o len : Nat} {xs : Nat → Nat} (h : IsFl w (some ⟨b, o, none⟩) len xs) {k : Nat} (hk : k < len) : xs k < 18446744073709551616 ∧ b < w.heap.size ∧ w.cell? ⟨b, o + k, none⟩ = some (.float .f64 (xs k)) := by
  obtain ⟨h1, b', o', e, h2, h3⟩ := h k hk
  injection e with e1
  injection e1 with e2 e3
  subst e2 e3
  exact ⟨h1, h2, h3⟩
theorem IsIn.at0 {w : World} {b o len : Nat} {xs : Nat → Int} (h : IsIn w (some ⟨b, o, none⟩) len xs) {k : Nat} (hk : k < len) : xs k ≤ 9223372036854775807 ∧ b < w.heap.size ∧ w.cell? ⟨b, o + k, none⟩ = some (.int .i64 (xs k)) := by
  obtain ⟨h1, b', o', e, h2, h3⟩ := h k hk
  injection e with e1
  injection e1 with e2 e3
  subst e2 e3
  exact ⟨h1.2, h2, h3⟩
theorem maxB_lt {a b : Nat} (ha : a < 18446744073709551616) (hb : b < 18446744073709551616) : maxB a b < 18446744073709551616 := by
  unfold maxB
  split
  · decide
  · split <;> assumption
theorem fgt_flt {u : Nat} (hu : u < 18446744073709551616) (h : fgt u 0 = true) : flt u 0 = false := by
  rw [fgt_ps hu] at h
  rw [flt_ns hu]
  exact ps_ns h
theorem inR_nat {e : Int} {N : Nat} (h : inR e (N : Nat) = true) : ∃ E : Nat, e = (E : Int) ∧ E < N := by
  obtain ⟨h1, h2⟩ := inR_iff.1 h
  obtain ⟨E, rfl⟩ := Int.eq_ofNat_of_zero_le h1
  exact ⟨E, rfl, by omega⟩
theorem rdAll_no {n : Nat} {k : Int} {lb lw : Nat} {B : Nat → Nat} {W : Nat → Int} {e : Int} {u : Nat} (h : ¬ (inR e (12 * n * n : Nat) = true ∧ lb = 6 * n * n ∧ lw = 6 * n * n)) : rdAll n k lb lw B W e u = 0 := by unfold rdAll; rw [if_neg h]
theorem rdAll_eN {n : Nat} {k : Int} {B : Nat → Nat} {W : Nat → Int} {t u : Nat} (hn : 1 ≤ n) (ht : t < 24 * n * n) (hl : isL n t = true) : rdAll n k (6 * n * n) (6 * n * n) B W (eN n t : Nat) u = rdT n k (arC n) B W t u := by
  unfold rdAll
  rw [if_pos ⟨inR_iff.2 (by have := ed_lt hn ht hl; omega), rfl, rfl⟩, Int.toNat_natCast, edT_eN hn ht hl]
theorem IsFl.some0 {w : World} {a0 : Option Addr} {len : Nat} {xs : Nat → Nat} (h : IsFl w a0 len xs) (h0 : 0 < len) : ∃ b o, a0 = some ⟨b, o, none⟩ := by
  obtain ⟨_, b, o, e, _⟩ := h 0 h0
  exact ⟨b, o, e⟩
theorem IsIn.some0 {w : World} {a0 : Option Addr} {len : Nat} {xs : Nat → Int} (h : IsIn w a0 len xs) (h0 : 0 < len) : ∃ b o, a0 = some ⟨b, o, none⟩ := by
  obtain ⟨_, b, o, e, _⟩ := h 0 h0
  exact ⟨b, o, e⟩
theorem six_pos {n : Nat} (hn : 1 ≤ n) : 0 < 6 * n * n := Nat.mul_pos (Nat.mul_pos (by decide) hn) hn
end Go.Proofs.YtgeipbegpflkhaaGreatDoor

/-
  That the program is awake: the walk, of whatever program keeps to the depth over an edge.
-/
namespace Go.Proofs.YtgeipbegpflkhaaGreatDoor
open Go.RowKit Tf Cu
attribute [local go_sem] run_bits run_from raw_feq raw_fne raw_flt raw_fgt run_neg run_store_float
/-- what Depth is to answer, at all arguments -/
def DepthC : Prop := ∀ (n gb : Nat) (k : Int) (pb : Option Addr) (lb cb : Nat) (B : Nat → Nat) (pw : Option Addr) (lw cw : Nat) (Wt : Nat → Int) (pt : Option Addr) (lt ct : Nat) (ps : Option Addr) (ls cs : Nat) (sky st e : Int) (u : Nat) (w : World), (1 ≤ n ∧ n ≤ 32) → GridOf n gb w → IsFl w pb lb B → IsIn w pw lw Wt → u < 18446744073709551616 →
    Calls Tryz.prog 9 #[.pointer (some ⟨gb, 0, none⟩), .int .i64 k, .agg #[.slice pb lb cb, .slice pw lw cw, .slice pt lt ct, .slice ps ls cs, .int .i64 sky, .int .i64 st], .int .i64 e, .float .f64 u] w fun e' w' => e' = .returned (.float .f64 (rdAll n k lb lw B Wt e u)) ∧ Below w.heap.size w w'
theorem ar1 : ∀ c, c < 6 → arI (ArC 1 c) = 1431655765 := by decide +kernel
def dd12 (c : Nat) : Int := if c = 0 then 2 else if c = 3 then 4 else 1
def wt12 (i : Nat) : Int := if i < 6 then dd12 i * arI (ArC 1 i) else 0
theorem wt_num : wt12 0 = 2863311530 ∧ wt12 1 = 1431655765 ∧ wt12 3 = 5726623060 := by
  unfold wt12 dd12
  rw [ar1 0 (by decide), ar1 1 (by decide), ar1 3 (by decide)]
  decide
theorem side0 : isL 1 0 = true ∧ eN 1 0 = 0 ∧ mt 1 0 / 4 = 1 ∧ bkC 1 0 = 3 := by decide +kernel
theorem rd1 (k : Int) (u : Nat) (h : fgt u 0 = true) : rdAll 1 k 6 6 (fun _ => 0) wt12 0 u = rcR k (dpB 2863311530 1431655765) (dpB 5726623060 1431655765) (dpB 1431655765 1431655765) (lvl 0 2863311530 1431655765) 0 0 := by
  have s := side0
  have e := rdAll_eN (n := 1) (k := k) (B := fun _ => 0) (W := wt12) (t := 0) (u := u) (by decide) (by decide) s.1
  rw [s.2.1] at e
  have w := wt_num
  have a0 : arC 1 0 = 1431655765 := ar1 0 (by decide)
  have a1 : arC 1 1 = 1431655765 := ar1 1 (by decide)
  have a3 : arC 1 3 = 1431655765 := ar1 3 (by decide)
  refine Eq.trans e ?_
  rw [rdT_p h]
  unfold sdD ovC
  rw [s.2.2.1, s.2.2.2, show (0 : Nat) / 4 = 0 from rfl, w.1, w.2.1, w.2.2, a0, a1, a3]
theorem rn0 : rcR 0 (dpB 2863311530 1431655765) (dpB 5726623060 1431655765) (dpB 1431655765 1431655765) (lvl 0 2863311530 1431655765) 0 0 = 4611686018427387904 := by decide +kernel
theorem rn1 : rcR 1 (dpB 2863311530 1431655765) (dpB 5726623060 1431655765) (dpB 1431655765 1431655765) (lvl 0 2863311530 1431655765) 0 0 = 4609434218613702656 := by decide +kernel
theorem rn2 : rcR 2 (dpB 2863311530 1431655765) (dpB 5726623060 1431655765) (dpB 1431655765 1431655765) (lvl 0 2863311530 1431655765) 0 0 = 4607182418800017408 := by decide +kernel
theorem rd0 (k : Int) : rdAll 1 k 6 6 (fun _ => 0) wt12 0 0 = 0 := by
  have s := side0
  have e := rdAll_eN (n := 1) (k := k) (B := fun _ => 0) (W := wt12) (t := 0) (u := 0) (by decide) (by decide) s.1
  rw [s.2.1] at e
  refine Eq.trans e ?_
  exact rdT_0 (by decide) (by decide)
theorem rawBits12 (x : Nat) (w : World) : Calls Tryz.prog 11 #[.float .f64 x] w fun e w' => e = .returned (.int .u64 ((x : Nat) : Int)) ∧ w' = w := by
  go_enter Tryz.func11, Tryz.ntmps11
  go_wp2
  go_ret
  exact ⟨rfl, rfl⟩
theorem rowIs.fl {w : World} {b n : Nat} {f : Nat → Nat} (h : w.rowIs b 28 n (fun i => .float .f64 (f i))) (hf : ∀ i, i < n → f i < 18446744073709551616) : IsFl w (some ⟨b, 0, none⟩) n f := fun k hk => ⟨hf k hk, b, 0, rfl, h.lt, by rw [Nat.zero_add]; exact h.cell hk⟩
theorem rowIs.in {w : World} {b n : Nat} {f : Nat → Int} (h : w.rowIs b 2 n (fun i => .int .i64 (f i))) (hf : ∀ i, i < n → -9223372036854775808 ≤ f i ∧ f i ≤ 9223372036854775807) : IsIn w (some ⟨b, 0, none⟩) n f := fun k hk => ⟨hf k hk, b, 0, rfl, h.lt, by rw [Nat.zero_add]; exact h.cell hk⟩
theorem wt_in : ∀ c, c < 6 → -9223372036854775808 ≤ wt12 c ∧ wt12 c ≤ 9223372036854775807 := by
  intro c hc
  unfold wt12
  rw [if_pos hc, ar1 c hc]
  unfold dd12
  split
  · decide
  · split <;> decide
theorem wt_wrap : ∀ c, c < 6 → IntKind.i64.wrap (dd12 c * arI (ArC 1 c)) = dd12 c * arI (ArC 1 c) := by
  intro c hc
  rw [ar1 c hc]
  unfold dd12
  split
  · decide
  · split <;> decide
set_option maxRecDepth 100000 in
set_option maxHeartbeats 8000000 in
theorem awake12_at (DC : DepthC) (w : World) (hF : Fr w) : Calls Tryz.prog 5 #[] w fun e w' => e = .returned (.bool true) ∧ Below w.heap.size w w' := by
  have NW := hid (new_at 1 w (by omega) hF)
  have HD := hid DC
  have RB := hid rawBits12
  have q0 : feq 4611686018427387904 4611686018427387904 = true := by decide
  have q1 : feq 4609434218613702656 4609434218613702656 = true := by decide
  have q2 : feq 4607182418800017408 4607182418800017408 = true := by decide
  clear hF DC
  go_enter Tryz.func5, Tryz.ntmps5
  go_wp2_with fail
  refine NW.out.mono ?_
  rintro e v1 ⟨gb, rfl, a1, -, g1⟩
  have AW1 : Hid (Ab w v1) := a1
  have G1 : Hid (GridOf 1 gb v1) := g1
  clear a1 g1 NW
  have FL := hid (flat_at (dd := dd12) v1 G1.out wt_wrap)
  rw [show dd12 0 = 2 from rfl, show dd12 1 = 1 from rfl, show dd12 2 = 1 from rfl, show dd12 3 = 4 from rfl, show dd12 4 = 1 from rfl, show dd12 5 = 1 from rfl] at FL
  go_wp2_with fail
  refine FL.out.mono ?_
  rintro e v2 ⟨b1, b2, b3, rfl, k2, r1, r2, r3⟩
  have AB : Hid (Ab v1 (v2.alloc (.cells #[.slice (some ⟨b1, 0, none⟩) 6 6, .slice (some ⟨b2, 0, none⟩) 6 6, .slice none 0 0, .slice (some ⟨b3, 0, none⟩) 12 12, .int .i64 0, .int .i64 0] 25))) := (show Ab v1 v2 from k2).alloc _
  have IB : Hid (IsFl (v2.alloc (.cells #[.slice (some ⟨b1, 0, none⟩) 6 6, .slice (some ⟨b2, 0, none⟩) 6 6, .slice none 0 0, .slice (some ⟨b3, 0, none⟩) 12 12, .int .i64 0, .int .i64 0] 25)) (some ⟨b1, 0, none⟩) 6 (fun _ => 0)) := (rowIs.fl (r1.alloc _) (fun _ _ => by decide))
  have IW : Hid (IsIn (v2.alloc (.cells #[.slice (some ⟨b1, 0, none⟩) 6 6, .slice (some ⟨b2, 0, none⟩) 6 6, .slice none 0 0, .slice (some ⟨b3, 0, none⟩) 12 12, .int .i64 0, .int .i64 0] 25)) (some ⟨b2, 0, none⟩) 6 wt12) := rowIs.in (f := wt12) (r2.alloc _) wt_in
  have RS : Hid ((v2.alloc (.cells #[.slice (some ⟨b1, 0, none⟩) 6 6, .slice (some ⟨b2, 0, none⟩) 6 6, .slice none 0 0, .slice (some ⟨b3, 0, none⟩) 12 12, .int .i64 0, .int .i64 0] 25)).heap[v2.heap.size]? = some (.cells #[.slice (some ⟨b1, 0, none⟩) 6 6, .slice (some ⟨b2, 0, none⟩) 6 6, .slice none 0 0, .slice (some ⟨b3, 0, none⟩) 12 12, .int .i64 0, .int .i64 0] 25)) := heap_alloc_new _ _
  have CD : Hid (∀ (k : Int) (u r : Nat), u < 18446744073709551616 → rdAll 1 k 6 6 (fun _ => 0) wt12 0 u = r → ∀ v, Ab (v2.alloc (.cells #[.slice (some ⟨b1, 0, none⟩) 6 6, .slice (some ⟨b2, 0, none⟩) 6 6, .slice none 0 0, .slice (some ⟨b3, 0, none⟩) 12 12, .int .i64 0, .int .i64 0] 25)) v → Calls Tryz.prog 9 #[.pointer (some ⟨gb, 0, none⟩), .int .i64 k, .agg #[.slice (some ⟨b1, 0, none⟩) 6 6, .slice (some ⟨b2, 0, none⟩) 6 6, .slice none 0 0, .slice (some ⟨b3, 0, none⟩) 12 12, .int .i64 0, .int .i64 0], .int .i64 0, .float .f64 u] v fun e' w' => e' = .returned (.float .f64 r) ∧ Below v.heap.size v w') := fun k u r hu hr v hv => by
    have h := HD.out 1 gb k (some ⟨b1, 0, none⟩) 6 6 (fun _ => 0) (some ⟨b2, 0, none⟩) 6 6 wt12 none 0 0 (some ⟨b3, 0, none⟩) 12 12 0 0 0 u v (by omega) (G1.out.to (AB.out.trans hv)) (IB.out.below hv) (IW.out.below hv) hu
    rwa [hr] at h
  clear k2 r1 r2 r3 FL HD IB IW
  have c0 := cell_of_row _ _ 0 _ _ _ RS.out
  have c1 := cell_of_row _ _ 1 _ _ _ RS.out
  have c2 := cell_of_row _ _ 2 _ _ _ RS.out
  have c3 := cell_of_row _ _ 3 _ _ _ RS.out
  have c4 := cell_of_row _ _ 4 _ _ _ RS.out
  have c5 := cell_of_row _ _ 5 _ _ _ RS.out
  go_wp2_with fail
  generalize hV : v2.alloc (.cells #[.slice (some ⟨b1, 0, none⟩) 6 6, .slice (some ⟨b2, 0, none⟩) 6 6, .slice none 0 0, .slice (some ⟨b3, 0, none⟩) 12 12, .int .i64 0, .int .i64 0] 25) = V at *
  clear hV
  refine (CD.out 0 4607182418800017408 4611686018427387904 (by decide) ((rd1 0 _ (by decide)).trans rn0) _ (Ab.refl _)).mono ?_
  rintro e v3 ⟨rfl, k3⟩
  clear c0 c1 c2 c3 c4 c5
  have A3 : Hid (Ab V v3) := k3
  clear k3
  have c0 := cell_of_row _ _ 0 _ _ _ (A3.out.heap RS.out)
  have c1 := cell_of_row _ _ 1 _ _ _ (A3.out.heap RS.out)
  have c2 := cell_of_row _ _ 2 _ _ _ (A3.out.heap RS.out)
  have c3 := cell_of_row _ _ 3 _ _ _ (A3.out.heap RS.out)
  have c4 := cell_of_row _ _ 4 _ _ _ (A3.out.heap RS.out)
  have c5 := cell_of_row _ _ 5 _ _ _ (A3.out.heap RS.out)
  go_wp2_with fail
  refine (CD.out 1 4607182418800017408 4609434218613702656 (by decide) ((rd1 1 _ (by decide)).trans rn1) _ A3.out).mono ?_
  rintro e v4 ⟨rfl, k4⟩
  clear c0 c1 c2 c3 c4 c5
  have A4 : Hid (Ab V v4) := A3.out.call k4
  clear k4
  have c0 := cell_of_row _ _ 0 _ _ _ (A4.out.heap RS.out)
  have c1 := cell_of_row _ _ 1 _ _ _ (A4.out.heap RS.out)
  have c2 := cell_of_row _ _ 2 _ _ _ (A4.out.heap RS.out)
  have c3 := cell_of_row _ _ 3 _ _ _ (A4.out.heap RS.out)
  have c4 := cell_of_row _ _ 4 _ _ _ (A4.out.heap RS.out)
  have c5 := cell_of_row _ _ 5 _ _ _ (A4.out.heap RS.out)
  go_wp2_with fail
  refine (CD.out 2 4598175219545276416 4607182418800017408 (by decide) ((rd1 2 _ (by decide)).trans rn2) _ A4.out).mono ?_
  rintro e v5 ⟨rfl, k5⟩
  clear c0 c1 c2 c3 c4 c5
  have A5 : Hid (Ab V v5) := A4.out.call k5
  clear k5
  have c0 := cell_of_row _ _ 0 _ _ _ (A5.out.heap RS.out)
  have c1 := cell_of_row _ _ 1 _ _ _ (A5.out.heap RS.out)
  have c2 := cell_of_row _ _ 2 _ _ _ (A5.out.heap RS.out)
  have c3 := cell_of_row _ _ 3 _ _ _ (A5.out.heap RS.out)
  have c4 := cell_of_row _ _ 4 _ _ _ (A5.out.heap RS.out)
  have c5 := cell_of_row _ _ 5 _ _ _ (A5.out.heap RS.out)
  go_wp2_with fail
  refine (CD.out 0 0 0 (by decide) (rd0 0) _ A5.out).mono ?_
  rintro e v6 ⟨rfl, k6⟩
  clear c0 c1 c2 c3 c4 c5
  have A6 : Hid (Ab V v6) := A5.out.call k6
  clear k6
  go_wp2_with fail
  refine (RB.out _ _).mono ?_
  rintro e v7 ⟨rfl, hv7⟩
  have hv8 := hv7.symm
  subst hv8
  go_wp2
  go_ret
  exact ⟨rfl, (AW1.out.trans AB.out).trans A6.out⟩
end Go.Proofs.YtgeipbegpflkhaaGreatDoor

/-
  The reference's Max and Min: walks over the program.
-/
namespace Go.Proofs.YtgeipbegpflkhaaGreatDoor
open Go.RowKit Tf
attribute [local go_sem] run_bits run_from raw_feq raw_fne raw_flt raw_fgt run_neg
set_option maxHeartbeats 1000000 in
set_option maxRecDepth 100000 in
theorem refMax_any (a b : Nat) (w : World) (ha : a < 18446744073709551616) (hb : b < 18446744073709551616) :
    Calls Tryz.prog 40 #[.float .f64 a, .float .f64 b] w fun e w' => e = .returned (.float .f64 (maxB a b)) ∧ w' = w := by
  obtain ⟨r, hr⟩ : ∃ r, maxB a b = r := ⟨_, rfl⟩
  obtain ⟨o, ho⟩ : ∃ o, orderB a b = o := ⟨_, rfl⟩
  have h1 := orderB_lt a b
  rw [ho] at h1
  have HO : Hid (orderB a b = o) := ho
  have HR : Hid (r = if isN a || isN b then quiet else if o < 0 then b else a) := by
    show r = _
    rw [← hr]; unfold maxB; simp only [h1]
  rw [hr]
  clear hr ho h1
  cases nA : isN a
  · cases nB : isN b
    · have h := HR.out
      rw [nA, nB] at h
      simp only [Bool.or_self, Bool.false_eq_true, if_false] at h
      by_cases c : o < 0
      · have e1 : decide (0 ≤ o) = false := by simp; omega
        rw [if_pos c] at h
        rw [h]
        clear c HR h
        go_enter Tryz.func40, Tryz.ntmps40
        go_wp2_with fail
        refine (refNone_any a _).mono ?_
        rintro e w' ⟨rfl, rfl⟩
        go_wp2_with fail
        refine (refNone_any b _).mono ?_
        rintro e w' ⟨rfl, rfl⟩
        go_wp2_with fail
        refine (refOrd_at a b o _ ha hb HO).mono ?_
        rintro e w' ⟨rfl, rfl⟩
        go_wp2
        go_ret
        exact ⟨rfl, rfl⟩
      · have e1 : decide (0 ≤ o) = true := by simp; omega
        rw [if_neg c] at h
        rw [h]
        clear c HR h
        go_enter Tryz.func40, Tryz.ntmps40
        go_wp2_with fail
        refine (refNone_any a _).mono ?_
        rintro e w' ⟨rfl, rfl⟩
        go_wp2_with fail
        refine (refNone_any b _).mono ?_
        rintro e w' ⟨rfl, rfl⟩
        go_wp2_with fail
        refine (refOrd_at a b o _ ha hb HO).mono ?_
        rintro e w' ⟨rfl, rfl⟩
        go_wp2
        go_ret
        exact ⟨rfl, rfl⟩
    · have h := HR.out
      rw [nA, nB] at h
      simp only [Bool.or_true, if_true] at h
      rw [h]
      clear HR h
      go_enter Tryz.func40, Tryz.ntmps40
      go_wp2_with fail
      refine (refNone_any a _).mono ?_
      rintro e w' ⟨rfl, rfl⟩
      go_wp2_with fail
      refine (refNone_any b _).mono ?_
      rintro e w' ⟨rfl, rfl⟩
      go_wp2_with fail
      refine (refQuiet_any _).mono ?_
      rintro e w' ⟨rfl, rfl⟩
      go_wp2
      go_ret
      exact ⟨rfl, rfl⟩
  · have h := HR.out
    rw [nA] at h
    simp only [Bool.true_or, if_true] at h
    rw [h]
    clear HR h
    go_enter Tryz.func40, Tryz.ntmps40
    go_wp2_with fail
    refine (refNone_any a _).mono ?_
    rintro e w' ⟨rfl, rfl⟩
    go_wp2_with fail
    refine (refQuiet_any _).mono ?_
    rintro e w' ⟨rfl, rfl⟩
    go_wp2
    go_ret
    exact ⟨rfl, rfl⟩

set_option maxHeartbeats 1000000 in
set_option maxRecDepth 100000 in
theorem refMin_any (a b : Nat) (w : World) (ha : a < 18446744073709551616) (hb : b < 18446744073709551616) :
    Calls Tryz.prog 41 #[.float .f64 a, .float .f64 b] w fun e w' => e = .returned (.float .f64 (minB a b)) ∧ w' = w := by
  obtain ⟨r, hr⟩ : ∃ r, minB a b = r := ⟨_, rfl⟩
  obtain ⟨o, ho⟩ : ∃ o, orderB a b = o := ⟨_, rfl⟩
  have h1 := orderB_gt a b
  rw [ho] at h1
  have HO : Hid (orderB a b = o) := ho
  have HR : Hid (r = if isN a || isN b then quiet else if 0 < o then b else a) := by
    show r = _
    rw [← hr]; unfold minB; simp only [h1]
  rw [hr]
  clear hr ho h1
  cases nA : isN a
  · cases nB : isN b
    · have h := HR.out
      rw [nA, nB] at h
      simp only [Bool.or_self, Bool.false_eq_true, if_false] at h
      by_cases c : 0 < o
      · have e1 : decide (o ≤ 0) = false := by simp; omega
        rw [if_pos c] at h
        rw [h]
        clear c HR h
        go_enter Tryz.func41, Tryz.ntmps41
        go_wp2_with fail
        refine (refNone_any a _).mono ?_
        rintro e w' ⟨rfl, rfl⟩
        go_wp2_with fail
        refine (refNone_any b _).mono ?_
        rintro e w' ⟨rfl, rfl⟩
        go_wp2_with fail
        refine (refOrd_at a b o _ ha hb HO).mono ?_
        rintro e w' ⟨rfl, rfl⟩
        go_wp2
        go_ret
        exact ⟨rfl, rfl⟩
      · have e1 : decide (o ≤ 0) = true := by simp; omega
        rw [if_neg c] at h
        rw [h]
        clear c HR h
        go_enter Tryz.func41, Tryz.ntmps41
        go_wp2_with fail
        refine (refNone_any a _).mono ?_
        rintro e w' ⟨rfl, rfl⟩
        go_wp2_with fail
        refine (refNone_any b _).mono ?_
        rintro e w' ⟨rfl, rfl⟩
        go_wp2_with fail
        refine (refOrd_at a b o _ ha hb HO).mono ?_
        rintro e w' ⟨rfl, rfl⟩
        go_wp2
        go_ret
        exact ⟨rfl, rfl⟩
    · have h := HR.out
      rw [nA, nB] at h
      simp only [Bool.or_true, if_true] at h
      rw [h]
      clear HR h
      go_enter Tryz.func41, Tryz.ntmps41
      go_wp2_with fail
      refine (refNone_any a _).mono ?_
      rintro e w' ⟨rfl, rfl⟩
      go_wp2_with fail
      refine (refNone_any b _).mono ?_
      rintro e w' ⟨rfl, rfl⟩
      go_wp2_with fail
      refine (refQuiet_any _).mono ?_
      rintro e w' ⟨rfl, rfl⟩
      go_wp2
      go_ret
      exact ⟨rfl, rfl⟩
  · have h := HR.out
    rw [nA] at h
    simp only [Bool.true_or, if_true] at h
    rw [h]
    clear HR h
    go_enter Tryz.func41, Tryz.ntmps41
    go_wp2_with fail
    refine (refNone_any a _).mono ?_
    rintro e w' ⟨rfl, rfl⟩
    go_wp2_with fail
    refine (refQuiet_any _).mono ?_
    rintro e w' ⟨rfl, rfl⟩
    go_wp2
    go_ret
    exact ⟨rfl, rfl⟩

end Go.Proofs.YtgeipbegpflkhaaGreatDoor

/-
  A cell that is filled comes to its level: by plain numbers (no program).
-/
namespace Go.Proofs.YtgeipbegpflkhaaGreatDoor
open Tf Ieee
theorem rE (V : Nat) : 9007199254740992 * V ≤ 9007199254740993 * mv (rung 52 0 V) ∧ 9007199254740991 * mv (rung 52 0 V) ≤ 9007199254740992 * V := by
  by_cases c : 4503599627370496 ≤ rung 52 0 V
  · have h := near_err (d := 0) (V := V) rfl c
    rwa [Nat.pow_zero, Nat.mul_one] at h
  · have hV : V < 4503599627370496 := by
      rcases Nat.lt_or_ge V 4503599627370496 with k | k
      · exact k
      · have := rung_ge2 (d := 0) (r := 4503599627370496) (V := V) (by rw [Nat.pow_zero, Nat.mul_one, mv_sm (by omega)]; exact k)
        omega
    have e : mv V = V := mv_sm (by omega)
    have e2 : rung 52 0 V = V := by
      have := rung_mv V
      rwa [e] at this
    rw [e2, e]
    omega
theorem rd_err (v : Int) : 9007199254740992 * (rd v - v) ≤ (rd v).natAbs ∧ 9007199254740992 * (v - rd v) ≤ (rd v).natAbs := by
  have h := rE v.natAbs
  have a := rd_abs v
  rw [← a] at h
  have s : (0 ≤ v → 0 ≤ rd v) ∧ (v < 0 → rd v ≤ 0) := by unfold rd; constructor <;> intro h <;> split <;> omega
  generalize rd v = r at *
  omega
theorem mv_fw {n : Int} (h0 : 1 ≤ n) (h1 : n ≤ 9007199254740992) : (mv (fw n) : Int) = n * one := by
  have hi := fw_in h0 (by omega)
  have hm : mg (fw n) = fw n := mg_of_lt (by omega)
  have e := rn_fin' false (n * one) (by show mg (fw n) < _; omega)
  have d : isD (n * one) := isD_of (n * one) n 0 K (by rw [Nat.pow_zero, one_pow]; simp) (by
    have e : (2 : Nat) ^ 53 = 9007199254740992 := by decide
    rw [e]; omega)
  rw [rd_exact d] at e
  have s : sv (fw n) = (mv (fw n) : Nat) := sv_nn (by omega)
  rw [← s]
  exact e
/-- the sum of all that is off, times the area -/
theorem comes_lin (u uA bA lA HA P wu DA LA QA CA : Int) (hu : 0 < u) (h9 : u ≤ uA) (b1 : -(1048576 * uA) ≤ bA) (b2 : bA ≤ 1048576 * uA) (l1 : -(1048576 * uA) ≤ lA) (l2 : lA ≤ 1048576 * uA)
    (e1 : 9007199254740992 * (HA - (lA - bA)) ≤ HA) (e2 : 9007199254740992 * ((lA - bA) - HA) ≤ HA) (e3 : 9007199254740992 * HA ≤ 9007199254740993 * P) (e4 : 9007199254740991 * P ≤ 9007199254740992 * HA)
    (e5 : 2 * (P - wu) ≤ u) (e6 : -u ≤ 2 * (P - wu)) (e7 : 9007199254740992 * wu ≤ 9007199254740993 * DA) (e8 : 9007199254740991 * DA ≤ 9007199254740992 * wu)
    (e9 : 9007199254740992 * (LA - (bA + DA)) ≤ LA.natAbs) (e10 : 9007199254740992 * ((bA + DA) - LA) ≤ LA.natAbs) (e11 : 9007199254740992 * u ≤ 9007199254740993 * QA) (e12 : 536870912 * CA = uA) :
    LA - lA ≤ QA + CA ∧ -(QA + CA) ≤ LA - lA := by
  have q : u ≤ 2 * QA := by omega
  have ha : HA ≤ 2097153 * uA := by omega
  have x1 : 4294967296 * (HA - (lA - bA)) ≤ 2 * uA ∧ -(2 * uA) ≤ 4294967296 * (HA - (lA - bA)) := by omega
  have pa : P ≤ 2097154 * uA := by omega
  have x2 : 4294967296 * (P - HA) ≤ 2 * uA ∧ -(2 * uA) ≤ 4294967296 * (P - HA) := by omega
  have wa : wu ≤ 2097155 * uA := by omega
  have da : DA ≤ 2097156 * uA := by omega
  have x3 : 4294967296 * (DA - wu) ≤ 2 * uA ∧ -(2 * uA) ≤ 4294967296 * (DA - wu) := by omega
  have sa : LA.natAbs ≤ 4194304 * uA := by omega
  have x4 : 4294967296 * (LA - (bA + DA)) ≤ 2 * uA ∧ -(2 * uA) ≤ 4294967296 * (LA - (bA + DA)) := by omega
  clear e1 e2 e3 e4 e7 e8 e9 e10 e11 ha pa wa da sa b1 b2 l1 l2
  omega
end Go.Proofs.YtgeipbegpflkhaaGreatDoor
