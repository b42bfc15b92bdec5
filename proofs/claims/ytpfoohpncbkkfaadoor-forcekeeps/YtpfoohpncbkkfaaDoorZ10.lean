/-
  Some of the texts of this proof, one behind the other.
-/
import Derived.Deep.AppendLies
import Derived.OwnWalk
import Derived.Deep.QuietTactic
import Derived.Test.YtpfoohpncbkkfaaDoorZ09
namespace Go.Proofs.YtpfoohpncbkkfaaDoor
open Go.RowKit Tf Cu
theorem arI_top (L : Nat) : 1 ≤ arI L ∧ arI L ≤ 9223372036854775807 := by
  have h : cI .even (arQ L) ≤ 9223372036854775807 := by
    unfold cI
    split
    · rename_i c
      unfold cOk at c
      simp only [Bool.and_eq_true, decide_eq_true_eq] at c
      omega
    · decide
  unfold arI
  omega
/-- the area of a cell -/
def arC (n c : Nat) : Int := arI (ArC n c)
theorem arC_in (n c : Nat) : 1 ≤ arC n c ∧ arC n c ≤ 9223372036854775807 := arI_top _
theorem IsFl.at0 {w : World} {b o len : Nat} {xs : Nat → Nat} (h : IsFl w (some ⟨b, o, none⟩) len xs) {k : Nat} (hk : k < len) : xs k < 18446744073709551616 ∧ b < w.heap.size ∧ w.cell? ⟨b, o + k, none⟩ = some (.float .f64 (xs k)) := by
  obtain ⟨h1, b', o', e, h2, h3⟩ := h k hk
  injection e with e1
  injection e1 with e2 e3
  subst e2 e3
  exact ⟨h1, h2, h3⟩
theorem IsIn.at0 {w : World} {b o len : Nat} {xs : Nat → Int} (h : IsIn w (some ⟨b, o, none⟩) len xs) {k : Nat} (hk : k < len) : xs k ≤ 9223372036854775807 ∧ b < w.heap.size ∧ w.cell? ⟨b, o + k, none⟩ = some (.int .i64 (xs k)) := by
  obtain ⟨h1, b', o', e, h2, h3⟩ := h k hk
  injection e with e1
  injection e1 with e2 e3
  subst e2 e3
  exact ⟨h1.2, h2, h3⟩
theorem inR_nat {e : Int} {N : Nat} (h : inR e (N : Nat) = true) : ∃ E : Nat, e = (E : Int) ∧ E < N := by
  obtain ⟨h1, h2⟩ := inR_iff.1 h
  obtain ⟨E, rfl⟩ := Int.eq_ofNat_of_zero_le h1
  exact ⟨E, rfl, by omega⟩
theorem IsFl.some0 {w : World} {a0 : Option Addr} {len : Nat} {xs : Nat → Nat} (h : IsFl w a0 len xs) (h0 : 0 < len) : ∃ b o, a0 = some ⟨b, o, none⟩ := by
  obtain ⟨_, b, o, e, _⟩ := h 0 h0
  exact ⟨b, o, e⟩
theorem IsIn.some0 {w : World} {a0 : Option Addr} {len : Nat} {xs : Nat → Int} (h : IsIn w a0 len xs) (h0 : 0 < len) : ∃ b o, a0 = some ⟨b, o, none⟩ := by
  obtain ⟨_, b, o, e, _⟩ := h 0 h0
  exact ⟨b, o, e⟩
end Go.Proofs.YtpfoohpncbkkfaaDoor

namespace Go.Proofs.YtpfoohpncbkkfaaDoor
open Go.RowKit Go.Deep
theorem rowIs.fl {w : World} {b n : Nat} {f : Nat → Nat} (h : w.rowIs b 22 n (fun i => .float .f64 (f i))) (hf : ∀ i, i < n → f i < 18446744073709551616) : IsFl w (some ⟨b, 0, none⟩) n f := fun k hk => ⟨hf k hk, b, 0, rfl, h.lt, by rw [Nat.zero_add]; exact h.cell hk⟩
theorem rowIs.in {w : World} {b n : Nat} {f : Nat → Int} (h : w.rowIs b 2 n (fun i => .int .i64 (f i))) (hf : ∀ i, i < n → -9223372036854775808 ≤ f i ∧ f i ≤ 9223372036854775807) : IsIn w (some ⟨b, 0, none⟩) n f := fun k hk => ⟨hf k hk, b, 0, rfl, h.lt, by rw [Nat.zero_add]; exact h.cell hk⟩
end Go.Proofs.YtpfoohpncbkkfaaDoor

namespace Go.Proofs.YtpfoohpncbkkfaaDoor
open Tf Ieee
namespace Fc
theorem dvB_nan' {y l : Nat} (hl : isN l = true) : dvB y l = quiet := by
  refine dvB_none ?_
  rw [isN_true] at hl
  have ei := d_inf
  show ((double.read y).quotient 54 (double.read l)).map double.write = none
  rw [read_nan double l d_he (by rw [rg_d]; omega)]
  cases double.read y <;> rfl
theorem zero_cases {x : Nat} (hx : x < 18446744073709551616) (h : mg x = 0) : x = 0 ∨ x = 9223372036854775808 := by
  unfold mg at h
  omega
theorem dv0 {b : Nat} (hb : b < 18446744073709551616) : dvB 0 b = 0 ∨ dvB 0 b = quiet := by
  by_cases n : isN b = true
  · exact .inr (dvB_nan' n)
  · have n2 : ¬ 9218868437227405312 < mg b := by rw [isN_true] at n; exact n
    by_cases z : mg b = 0
    · rcases zero_cases hb z with rfl | rfl
      · exact .inr (by decide +kernel)
      · exact .inr (by decide +kernel)
    · by_cases i : mg b = 9218868437227405312
      · have : b = 9218868437227405312 ∨ b = 18442240474082181120 := by unfold mg at i; omega
        rcases this with rfl | rfl
        · exact .inl (by decide +kernel)
        · exact .inl (by decide +kernel)
      · exact .inl (dvB_z b z (by omega) 0 (by decide))
/-- a quotient hangs on the numerator's canonical form -/
theorem dvB_cl {a b : Nat} (ha : a < 18446744073709551616) (hb : b < 18446744073709551616) : dvB (canonB a) b = dvB a b := by
  rcases canon_cases ha with ⟨h, e⟩ | ⟨h, e⟩ | ⟨h, k, e⟩
  · rw [e, dvB_nan (y := quiet) (by decide), dvB_nan h]
  · rw [e]
    rcases zero_cases ha h with rfl | rfl
    · rfl
    · have k := dvB_cn (a := 0) (b := b) (by omega)
      rw [show negB 0 = 9223372036854775808 by decide] at k
      rw [k]
      rcases dv0 hb with q | q <;> rw [q] <;> decide
  · rw [e]
/-- what the levels pull -/
def puB (G dt ll lr gap : Nat) : Nat := dvB (mlB (mlB G dt) (sbB lr ll)) gap
/-- the speed, pulled -/
def u1B (G dt u ll lr gap : Nat) : Nat := sbB u (puB G dt ll lr gap)
/-- the depth over the edge -/
def hB (dl dr : Nat) : Nat := mlB 4602678819172646912 (addB dl dr)
/-- what the bed drags -/
def drB (D dt u1 h : Nat) : Nat := addB 4607182418800017408 (dvB (mlB (mlB D dt) (mg u1)) h)
/-- within what is fastest -/
def cuB (x : Nat) : Nat := if fgt x 4652218415073722368 = true then 4652218415073722368 else if flt x 13875590451928498176 = true then 13875590451928498176 else if isN x = true then 0 else canonB x
/-- the speed behind a step, of an open edge -/
def spB (G dt D u ll lr dl dr gap : Nat) : Nat := if fgt (hB dl dr) 0 = true then cuB (dvB (u1B G dt u ll lr gap) (drB D dt (u1B G dt u ll lr gap) (hB dl dr))) else 0
/-- whether water can go -/
def opB (wl wr : Int) (ll lr bl br : Nat) : Bool := !((!decide (0 < wl) && !decide (0 < wr)) || (!decide (0 < wl) && (flt lr bl || feq lr bl)) || (!decide (0 < wr) && (flt ll br || feq ll br)))
section
variable {G dt D u ll lr dl dr gap : Nat}
theorem puB_lt (G dt ll lr gap : Nat) : puB G dt ll lr gap < 18446744073709551616 := dvB_lt _ _
theorem hB_lt (h1 : dl < 18446744073709551616) (h2 : dr < 18446744073709551616) : hB dl dr < 18446744073709551616 := mlB_lt (by omega) (addB_lt _ _ h1 h2)
theorem mg_lt64 (x : Nat) : mg x < 18446744073709551616 := by unfold mg; omega
theorem rk_1024 : rk 4652218415073722368 = 4652218415073722368 ∧ rk 13875590451928498176 = -4652218415073722368 ∧ isN 4652218415073722368 = false ∧ isN 13875590451928498176 = false := by decide
/-- what cut answers, by order -/
theorem cuB_cases {x : Nat} (hx : x < 18446744073709551616) : (isN x = true ∧ cuB x = 0) ∨ (isN x = false ∧ 4652218415073722368 < rk x ∧ cuB x = 4652218415073722368) ∨ (isN x = false ∧ rk x < -4652218415073722368 ∧ cuB x = 13875590451928498176) ∨ (isN x = false ∧ -4652218415073722368 ≤ rk x ∧ rk x ≤ 4652218415073722368 ∧ cuB x = canonB x) := by
  have g := fgt_rk x 4652218415073722368 hx (by omega)
  have l := flt_rk x 13875590451928498176 hx (by omega)
  rw [rk_1024.1, rk_1024.2.2.1] at g
  rw [rk_1024.2.1, rk_1024.2.2.2] at l
  unfold cuB
  cases n : isN x with
  | true =>
    rw [n] at g l
    simp at g l
    left
    rw [g, l]
    simp
  | false =>
    rw [n] at g l
    simp at g l
    right
    by_cases c1 : 4652218415073722368 < rk x
    · left
      have : fgt x 4652218415073722368 = true := by rw [g]; exact decide_eq_true c1
      rw [this]
      exact ⟨rfl, c1, by simp⟩
    · have e1 : fgt x 4652218415073722368 = false := by rw [g]; exact decide_eq_false c1
      right
      by_cases c2 : rk x < -4652218415073722368
      · left
        have e2 : flt x 13875590451928498176 = true := by rw [l]; exact decide_eq_true c2
        rw [e1, e2]
        exact ⟨rfl, c2, by simp⟩
      · right
        have e2 : flt x 13875590451928498176 = false := by rw [l]; exact decide_eq_false c2
        rw [e1, e2]
        exact ⟨rfl, by omega, by omega, by simp⟩
/-- canonical, and within what is fastest -/
theorem spB_in (G dt D u ll lr dl dr gap : Nat) : spB G dt D u ll lr dl dr gap < 18446744073709551616 ∧ canonB (spB G dt D u ll lr dl dr gap) = spB G dt D u ll lr dl dr gap ∧ isN (spB G dt D u ll lr dl dr gap) = false ∧ -4652218415073722368 ≤ rk (spB G dt D u ll lr dl dr gap) ∧ rk (spB G dt D u ll lr dl dr gap) ≤ 4652218415073722368 := by
  unfold spB
  by_cases q : fgt (hB dl dr) 0 = true
  · rw [if_pos q]
    have hx := dvB_lt (u1B G dt u ll lr gap) (drB D dt (u1B G dt u ll lr gap) (hB dl dr))
    have hc := dvB_canon (u1B G dt u ll lr gap) (drB D dt (u1B G dt u ll lr gap) (hB dl dr))
    generalize dvB (u1B G dt u ll lr gap) (drB D dt (u1B G dt u ll lr gap) (hB dl dr)) = x at *
    rcases cuB_cases hx with ⟨_, e⟩ | ⟨_, _, e⟩ | ⟨_, _, e⟩ | ⟨n, h1, h2, e⟩ <;> rw [e]
    · decide
    · decide
    · decide
    · rw [hc]
      exact ⟨hx, hc, n, h1, h2⟩
  · rw [if_neg q]
    decide
end
end Fc
end Go.Proofs.YtpfoohpncbkkfaaDoor

namespace Go.Proofs.YtpfoohpncbkkfaaDoor
open Tf Ieee
theorem infW_form (s : Bool) : infW s = if s = true then 9223372036854775808 + 9218868437227405312 else 9218868437227405312 := by cases s <;> rfl
/-- a product's magnitude hangs on the magnitudes alone, its sign on the signs -/
theorem mul_form (a b : Nat) (_ha : a < 18446744073709551616) (hb : b < 18446744073709551616) :
    (∀ s, s < 18446744073709551616 → mg s = mg a → double.mul s b = none) ∨
    ∃ m, m ≤ 9218868437227405312 ∧ ∀ s, s < 18446744073709551616 → mg s = mg a → double.mul s b = some (if (ng s ^^ ng b) = true then 9223372036854775808 + m else m) := by
  rcases three b with kb | kb | kb
  · rcases three a with ka | ka | ka
    · refine .inr ⟨min (rung 52 1074 (mv (mg a) * mv (mg b))) 9218868437227405312, Nat.min_le_right _ _, fun s hs e => ?_⟩
      rw [mul_d s b hs hb (by omega) kb, e]
    · by_cases z : mg b = 0
      · refine .inl fun s hs e => ?_
        rw [mul_if s b hs hb (by omega) kb, if_pos z]
      · refine .inr ⟨9218868437227405312, Nat.le_refl _, fun s hs e => ?_⟩
        rw [mul_if s b hs hb (by omega) kb, if_neg z, infW_form]
    · refine .inl fun s hs e => mul_nan s b (.inl ?_)
      rw [isN_true] at ka ⊢
      omega
  · rcases three a with ka | ka | ka
    · by_cases z : mg a = 0
      · refine .inl fun s hs e => ?_
        rw [mul_fi s b hs hb (by omega) kb, if_pos (by omega)]
      · refine .inr ⟨9218868437227405312, Nat.le_refl _, fun s hs e => ?_⟩
        rw [mul_fi s b hs hb (by omega) kb, if_neg (by omega), infW_form]
    · refine .inr ⟨9218868437227405312, Nat.le_refl _, fun s hs e => ?_⟩
      rw [mul_ii s b hs hb (by omega) kb, infW_form]
    · refine .inl fun s hs e => mul_nan s b (.inl ?_)
      rw [isN_true] at ka ⊢
      omega
  · exact .inl fun s _ _ => mul_nan s b (.inr kb)
theorem form_ng (s : Bool) {m : Nat} (h : m ≤ 9218868437227405312) : ng (if s = true then 9223372036854775808 + m else m) = s ∧ mg (if s = true then 9223372036854775808 + m else m) = m ∧ (if s = true then 9223372036854775808 + m else m) < 18446744073709551616 ∧ isN (if s = true then 9223372036854775808 + m else m) = false := by
  cases s
  · simp only [Bool.false_eq_true, if_false]
    have e : mg m = m := mg_of_lt (by omega)
    exact ⟨ng_of_lt (by omega), e, by omega, isN_false.2 (by omega)⟩
  · simp only [if_true]
    have e : mg (9223372036854775808 + m) = m := by unfold mg; omega
    exact ⟨ng_of_ge (by omega), e, by omega, isN_false.2 (by omega)⟩
/-- opposites: both NaN, or the one the other's opposite -/
def Opp (x y : Nat) : Prop := (isN x = true ∧ isN y = true) ∨ (isN x = false ∧ y = negB x)
theorem negB_form (s : Bool) {m : Nat} (h : m ≤ 9218868437227405312) : negB (if s = true then 9223372036854775808 + m else m) = if (!s) = true then 9223372036854775808 + m else m := by
  unfold negB
  rw [(form_ng s h).1]
  cases s
  · simp only [Bool.false_eq_true, if_false, Bool.not_false, if_true]; omega
  · simp only [if_true, Bool.not_true, Bool.false_eq_true, if_false]; omega
theorem Opp.mul {x y b : Nat} (hx : x < 18446744073709551616) (hb : b < 18446744073709551616) (hy : y < 18446744073709551616) (h : Opp x y) : Opp (mlB x b) (mlB y b) := by
  rcases h with ⟨n1, n2⟩ | ⟨n1, rfl⟩
  · refine .inl ⟨?_, ?_⟩
    · rw [mlB_none (mul_nan x b (.inl n1))]; decide
    · rw [mlB_none (mul_nan y b (.inl n2))]; decide
  · rcases mul_form x b hx hb with h | ⟨m, hm, h⟩
    · refine .inl ⟨?_, ?_⟩
      · rw [mlB_none (h x hx rfl)]; decide
      · rw [mlB_none (h _ hy (negB_mg hx))]; decide
    · refine .inr ⟨?_, ?_⟩
      · rw [mlB_some (h x hx rfl)]; exact (form_ng _ hm).2.2.2
      · rw [mlB_some (h x hx rfl), mlB_some (h _ hy (negB_mg hx)), negB_form _ hm, negB_ng hx]
        cases ng x <;> cases ng b <;> rfl
/-- not below nothing, or a NaN -/
def Nnn (x : Nat) : Prop := isN x = true ∨ ng x = false
theorem Nnn.mul {x b : Nat} (hx : x < 18446744073709551616) (hb : b < 18446744073709551616) (h : Nnn x) (k : Nnn b) : Nnn (mlB x b) := by
  rcases h with h | h
  · left; rw [mlB_none (mul_nan x b (.inl h))]; decide
  · rcases k with k | k
    · left; rw [mlB_none (mul_nan x b (.inr k))]; decide
    · rcases mul_form x b hx hb with e | ⟨m, hm, e⟩
      · left; rw [mlB_none (e x hx rfl)]; decide
      · right; rw [mlB_some (e x hx rfl), (form_ng _ hm).1, h, k]; rfl
/-- nothing, or a NaN -/
def Zn (x : Nat) : Prop := isN x = true ∨ mg x = 0
theorem Zn.mul {x b : Nat} (hx : x < 18446744073709551616) (hb : b < 18446744073709551616) (h : Zn x) : Zn (mlB x b) := by
  rcases h with h | h
  · left; rw [mlB_none (mul_nan x b (.inl h))]; decide
  · rcases three b with k | k | k
    · right
      have e : mv (mg x) * mv (mg b) = 0 := by rw [h, mv_zero, Nat.zero_mul]
      have r : rung 52 1074 0 = 0 := by decide +kernel
      rw [mlB_some (mul_d x b hx hb (by omega) k), e, r, Nat.zero_min]
      cases (ng x ^^ ng b) <;> decide
    · left; rw [mlB_none (by rw [mul_fi x b hx hb (by omega) k, if_pos h])]; decide
    · left; rw [mlB_none (mul_nan x b (.inr k))]; decide
section
variable {u d l t : Nat} (hu : u < 18446744073709551616) (hd : d < 18446744073709551616) (hl : l < 18446744073709551616) (ht : t < 18446744073709551616)
end
end Go.Proofs.YtpfoohpncbkkfaaDoor

namespace Go.Proofs.YtpfoohpncbkkfaaDoor
open Go.RowKit Tf Cu Go.Deep
/-- a list of the call's own, of so many floats -/
def OwnG (B : Nat) (v : Value) (l : List Nat) (w : World) : Prop := w.ownsRow B 22 1 v l.length (l.map (Value.float .f64))
theorem OwnG.fl {B : Nat} {v : Value} {l : List Nat} {w : World} (h : OwnG B v l w) (hl : ∀ x ∈ l, x < 18446744073709551616) : ∃ a0 cap, v = .slice a0 l.length cap ∧ IsFl w a0 l.length (fun j => l.getD j 0) := by
  rcases h.2 with ⟨rfl, h0⟩ | ⟨g, cap, cur, rfl, hb, hg, h1, h2, h3, h4⟩
  · exact ⟨none, 0, by rw [h0], fun k hk => by omega⟩
  · refine ⟨some ⟨g, 0, none⟩, cap, rfl, fun k hk => ?_⟩
    have hx : l.getD k 0 = l[k] := by simp [List.getD, hk]
    refine ⟨by dsimp only; rw [hx]; exact hl _ (List.getElem_mem _), g, 0, rfl, lt_of_block hg, ?_⟩
    have e := h.cells (g := g) rfl k (.float .f64 (l.getD k 0)) (by simp [hk])
    rw [add_off12] at e
    exact e
theorem OwnG.to {B : Nat} {v : Value} {l : List Nat} {w w' : World} (h : OwnG B v l w) (hb : Ab w w') : OwnG B v l w' := by
  refine ⟨h.1, ?_⟩
  rcases h.2 with h0 | ⟨g, cap, cur, e, hb', hg, h1, h2, h3, h4⟩
  · exact .inl h0
  · exact .inr ⟨g, cap, cur, e, hb', hb.heap hg, h1, h2, h3, h4⟩
theorem info_g : ∃ i, Tryd.prog.info? 22 = some i ∧ i.zero = some (.float .f64 0) ∧ i.size = 1 ∧ i.bytes = 8 := by
  have h := infoF64
  cases e : Tryd.prog.info? 22 with
  | none => rw [e] at h; cases h
  | some i =>
    rw [e] at h
    simp at h
    exact ⟨i, rfl, h.1, h.2.1, h.2.2⟩
end Go.Proofs.YtpfoohpncbkkfaaDoor

namespace Go.Proofs.YtpfoohpncbkkfaaDoor
open Go.RowKit Tf Cu Go.Deep
namespace Fc
/-- an edge's Left -/
def eL (n i : Nat) : Nat := edT n i / 4
/-- an edge's Right -/
def eR (n i : Nat) : Nat := mt n (edT n i) / 4
/-- an edge's gap -/
def gpE (n i : Nat) : Nat := GpC n (edT n i / 4) (edT n i % 4)
/-- a cell's level -/
def lvC (n : Nat) (B : Nat → Nat) (W : Nat → Int) (c : Nat) : Nat := lvl (B c) (W c) (arC n c)
/-- a cell's depth -/
def dpC (n : Nat) (W : Nat → Int) (c : Nat) : Nat := dpB (W c) (arC n c)
/-- whether an edge is open -/
def opE (n : Nat) (B : Nat → Nat) (W : Nat → Int) (i : Nat) : Bool := opB (W (eL n i)) (W (eR n i)) (lvC n B W (eL n i)) (lvC n B W (eR n i)) (B (eL n i)) (B (eR n i))
/-- an edge's speed behind a step -/
def spE (n G dt D : Nat) (B : Nat → Nat) (W : Nat → Int) (Sp : Nat → Nat) (i : Nat) : Nat := if opE n B W i = true then spB G dt D (Sp i) (lvC n B W (eL n i)) (lvC n B W (eR n i)) (dpC n W (eL n i)) (dpC n W (eR n i)) (gpE n i) else 0
/-- whether a sea fits -/
def fit4 (n lb lw lt ls : Nat) : Prop := lb = 6 * n * n ∧ lw = 6 * n * n ∧ lt = 6 * n * n ∧ ls = 12 * n * n
/-- whether an edge and a sea are there -/
def has4 (n lb lw lt ls : Nat) (e : Int) : Prop := fit4 n lb lw lt ls ∧ inR e (12 * n * n : Nat) = true
/-- what Open is to answer -/
def OpenC : Prop := ∀ (n gb : Nat) (pb : Option Addr) (lb cb : Nat) (B : Nat → Nat) (pw : Option Addr) (lw cw : Nat) (Wt : Nat → Int) (pt : Option Addr) (lt ct : Nat) (ps : Option Addr) (ls cs : Nat) (sky st e : Int) (w : World), (1 ≤ n ∧ n ≤ 32) → GridOf n gb w → IsFl w pb lb B → IsIn w pw lw Wt → (∃ Sp, IsFl w ps ls Sp) → (-9223372036854775808 ≤ e ∧ e ≤ 9223372036854775807) →
    (has4 n lb lw lt ls e → Calls Tryd.prog 15 #[.pointer (some ⟨gb, 0, none⟩), .agg #[.slice pb lb cb, .slice pw lw cw, .slice pt lt ct, .slice ps ls cs, .int .i64 sky, .int .i64 st], .int .i64 e] w fun x w' => x = .returned (.bool (opE n B Wt e.toNat)) ∧ Below w.heap.size w w') ∧
    (¬ has4 n lb lw lt ls e → Calls Tryd.prog 15 #[.pointer (some ⟨gb, 0, none⟩), .agg #[.slice pb lb cb, .slice pw lw cw, .slice pt lt ct, .slice ps ls cs, .int .i64 sky, .int .i64 st], .int .i64 e] w fun x w' => x = .returned (.bool false) ∧ Below w.heap.size w w')
/-- what Speed is to answer -/
def SpeedC : Prop := ∀ (n gb : Nat) (sd : Int) (dt gr dr : Nat) (lim : Int) (rv : Bool) (pr : Option Addr) (lr cr : Nat) (pb : Option Addr) (lb cb : Nat) (B : Nat → Nat) (pw : Option Addr) (lw cw : Nat) (Wt : Nat → Int) (pt : Option Addr) (lt ct : Nat) (ps : Option Addr) (ls cs : Nat) (Sp : Nat → Nat) (sky st e : Int) (w : World), (1 ≤ n ∧ n ≤ 32) → GridOf n gb w → IsFl w pb lb B → IsIn w pw lw Wt → IsFl w ps ls Sp → (dt < 18446744073709551616 ∧ gr < 18446744073709551616 ∧ dr < 18446744073709551616) → (-9223372036854775808 ≤ e ∧ e ≤ 9223372036854775807) →
    (has4 n lb lw lt ls e → Calls Tryd.prog 18 #[.pointer (some ⟨gb, 0, none⟩), .agg #[.int .i64 sd, .float .f64 dt, .float .f64 gr, .float .f64 dr, .int .i64 lim, .bool rv, .slice pr lr cr], .agg #[.slice pb lb cb, .slice pw lw cw, .slice pt lt ct, .slice ps ls cs, .int .i64 sky, .int .i64 st], .int .i64 e] w fun x w' => x = .returned (.float .f64 (spE n gr dt dr B Wt Sp e.toNat)) ∧ Below w.heap.size w w') ∧
    (¬ has4 n lb lw lt ls e → Calls Tryd.prog 18 #[.pointer (some ⟨gb, 0, none⟩), .agg #[.int .i64 sd, .float .f64 dt, .float .f64 gr, .float .f64 dr, .int .i64 lim, .bool rv, .slice pr lr cr], .agg #[.slice pb lb cb, .slice pw lw cw, .slice pt lt ct, .slice ps ls cs, .int .i64 sky, .int .i64 st], .int .i64 e] w fun x w' => x = .returned (.float .f64 0) ∧ Below w.heap.size w w')
/-- what Speeds is to answer -/
def SpeedsC : Prop := ∀ (n gb : Nat) (sd : Int) (dt gr dr : Nat) (lim : Int) (rv : Bool) (pr : Option Addr) (lr cr : Nat) (pb : Option Addr) (lb cb : Nat) (B : Nat → Nat) (pw : Option Addr) (lw cw : Nat) (Wt : Nat → Int) (pt : Option Addr) (lt ct : Nat) (ps : Option Addr) (ls cs : Nat) (Sp : Nat → Nat) (sky st : Int) (w : World), (1 ≤ n ∧ n ≤ 32) → GridOf n gb w → IsFl w pb lb B → IsIn w pw lw Wt → IsFl w ps ls Sp → (dt < 18446744073709551616 ∧ gr < 18446744073709551616 ∧ dr < 18446744073709551616) →
    (fit4 n lb lw lt ls → Calls Tryd.prog 11 #[.pointer (some ⟨gb, 0, none⟩), .agg #[.int .i64 sd, .float .f64 dt, .float .f64 gr, .float .f64 dr, .int .i64 lim, .bool rv, .slice pr lr cr], .agg #[.slice pb lb cb, .slice pw lw cw, .slice pt lt ct, .slice ps ls cs, .int .i64 sky, .int .i64 st]] w fun e w' => ∃ v, e = .returned (.tuple #[v, .int .i64 0]) ∧ Below w.heap.size w w' ∧ OwnG w.heap.size v ((List.range (12 * n * n)).map (spE n gr dt dr B Wt Sp)) w') ∧
    (¬ fit4 n lb lw lt ls → Calls Tryd.prog 11 #[.pointer (some ⟨gb, 0, none⟩), .agg #[.int .i64 sd, .float .f64 dt, .float .f64 gr, .float .f64 dr, .int .i64 lim, .bool rv, .slice pr lr cr], .agg #[.slice pb lb cb, .slice pw lw cw, .slice pt lt ct, .slice ps ls cs, .int .i64 sky, .int .i64 st]] w fun e w' => e = .returned (.tuple #[.slice none 0 0, .int .i64 1]) ∧ Below w.heap.size w w')
theorem spE_in (n G dt D : Nat) (B : Nat → Nat) (W : Nat → Int) (Sp : Nat → Nat) (i : Nat) : spE n G dt D B W Sp i < 18446744073709551616 ∧ canonB (spE n G dt D B W Sp i) = spE n G dt D B W Sp i ∧ isN (spE n G dt D B W Sp i) = false ∧ -4652218415073722368 ≤ rk (spE n G dt D B W Sp i) ∧ rk (spE n G dt D B W Sp i) ≤ 4652218415073722368 := by
  unfold spE
  split
  · exact spB_in _ _ _ _ _ _ _ _ _
  · exact ⟨by decide, by decide, by decide, by decide, by decide⟩
/-- a list of the call's own, as a row -/
theorem ownG_row {B : Nat} {v : Value} {l : List Nat} {w : World} (h : OwnG B v l w) (h0 : 0 < l.length) : ∃ g cap F, v = .slice (some ⟨g, 0, none⟩) l.length cap ∧ B ≤ g ∧ l.length ≤ cap ∧ cap ≤ maxLen ∧ w.rowIs g 22 cap F ∧ ∀ i, i < l.length → F i = .float .f64 (l.getD i 0) := by
  rcases h.2 with ⟨rfl, hz⟩ | ⟨g, cap, cur, e, hb, hg, h1, h2, h3, h4⟩
  · omega
  · refine ⟨g, cap, fun i => (cur[i]?).getD (.bool false), e, hb, h1, h2, ⟨cur, hg, by omega, fun i hi => ?_⟩, fun i hi => ?_⟩
    · have : i < cur.size := by omega
      simp [this]
    · have q : (cur.toList.take l.length)[i]? = (l.map (Value.float .f64))[i]? := by
        have h4' : cur.toList.take l.length = l.map (Value.float .f64) := by simpa using h4
        rw [h4']
      rw [List.getElem?_take, if_pos hi, Array.getElem?_toList] at q
      dsimp only
      rw [q]
      simp [hi, List.getD]
theorem ownG_two {B n : Nat} {v : Value} {x : Nat → Nat} {w : World} (h : OwnG B v ((List.range n).map x) w) (h0 : 0 < n) : ∃ g cap F, v = .slice (some ⟨g, 0, none⟩) n cap ∧ B ≤ g ∧ n ≤ cap ∧ cap ≤ maxLen ∧ w.rowIs g 22 cap F ∧ ∀ i, i < n → F i = .float .f64 (x i) := by
  have e : ((List.range n).map x).length = n := by simp
  obtain ⟨g, cap, F, h1, h2, h3, h4, h5, h6⟩ := ownG_row h (by rw [e]; exact h0)
  rw [e] at h1 h3 h6
  exact ⟨g, cap, F, h1, h2, h3, h4, h5, fun i hi => by rw [h6 i hi]; simp [List.getD, hi]⟩
/-- beds and waters of the test of life, changed -/
def lvB (i : Nat) : Nat := if i = 0 then 4613937818241073152 else 0
def lvW (i : Nat) : Int := if i = 0 then 0 else lkW i
theorem lf_0 : flt (spE 1 4607182418800017408 4602678819172646912 0 (fun _ => 0) lkW (fun _ => 0) 0) 0 = true := by decide +kernel
theorem lf_1 : spE 1 4607182418800017408 4602678819172646912 0 (fun _ => 0) lkW (fun _ => 0) 1 = 0 := by decide +kernel
theorem lf_2 : opE 1 lvB lvW 0 = false := by decide +kernel
theorem lf_3 : opE 1 lvB lvW 4 = true := by decide +kernel
end Fc
end Go.Proofs.YtpfoohpncbkkfaaDoor

namespace Go.Proofs.YtpfoohpncbkkfaaDoor
open Go.RowKit Tf Cu
attribute [local go_sem] run_bits run_from raw_feq raw_fne raw_flt raw_fgt run_neg run_store_float
set_option maxRecDepth 100000 in
set_option maxHeartbeats 8000000 in
theorem long16_go (pb pw pt ps : Option Addr) (lb cb lw cw lt ct ls cs : Nat) (sky st : Int) (q : Bool) (w : World)
    (hq : (decide ((65536 : Int) < (lb : Int)) = true ∧ q = true) ∨ (decide ((65536 : Int) < (lb : Int)) = false ∧ decide ((65536 : Int) < (lw : Int)) = true ∧ q = true) ∨ (decide ((65536 : Int) < (lb : Int)) = false ∧ decide ((65536 : Int) < (lw : Int)) = false ∧ decide ((65536 : Int) < (lt : Int)) = true ∧ q = true) ∨ (decide ((65536 : Int) < (lb : Int)) = false ∧ decide ((65536 : Int) < (lw : Int)) = false ∧ decide ((65536 : Int) < (lt : Int)) = false ∧ decide ((65536 : Int) < (ls : Int)) = q)) :
    Calls Tryd.prog 20 #[.agg #[.slice pb lb cb, .slice pw lw cw, .slice pt lt ct, .slice ps ls cs, .int .i64 sky, .int .i64 st]] w fun e w' => e = .returned (.bool q) ∧ Below w.heap.size w w' := by
  have A0 : Hid (Ab w (w.alloc (.cells #[.slice pb lb cb, .slice pw lw cw, .slice pt lt ct, .slice ps ls cs, .int .i64 sky, .int .i64 st] 29))) := bl1 _ _
  have RO : Hid ((w.alloc (.cells #[.slice pb lb cb, .slice pw lw cw, .slice pt lt ct, .slice ps ls cs, .int .i64 sky, .int .i64 st] 29)).heap[w.heap.size]? = some (.cells #[.slice pb lb cb, .slice pw lw cw, .slice pt lt ct, .slice ps ls cs, .int .i64 sky, .int .i64 st] 29)) := heap_alloc_new _ _
  have s0 := cell_of_row _ _ 0 _ _ _ RO.out
  have s1 := cell_of_row _ _ 1 _ _ _ RO.out
  have s2 := cell_of_row _ _ 2 _ _ _ RO.out
  have s3 := cell_of_row _ _ 3 _ _ _ RO.out
  rcases hq with ⟨q1, rfl⟩ | ⟨q1, q2, rfl⟩ | ⟨q1, q2, q3, rfl⟩ | ⟨q1, q2, q3, q4⟩
  · go_enter Tryd.func20, Tryd.ntmps20
    go_wp2
    go_ret
    exact ⟨rfl, A0.out⟩
  · go_enter Tryd.func20, Tryd.ntmps20
    go_wp2
    go_ret
    exact ⟨rfl, A0.out⟩
  · go_enter Tryd.func20, Tryd.ntmps20
    go_wp2
    go_ret
    exact ⟨rfl, A0.out⟩
  · cases q with
    | true =>
      go_enter Tryd.func20, Tryd.ntmps20
      go_wp2
      go_ret
      exact ⟨rfl, A0.out⟩
    | false =>
      go_enter Tryd.func20, Tryd.ntmps20
      go_wp2
      go_ret
      exact ⟨rfl, A0.out⟩
theorem long16_at (pb pw pt ps : Option Addr) (lb cb lw cw lt ct ls cs : Nat) (sky st : Int) (w : World) : Calls Tryd.prog 20 #[.agg #[.slice pb lb cb, .slice pw lw cw, .slice pt lt ct, .slice ps ls cs, .int .i64 sky, .int .i64 st]] w fun e w' => e = .returned (.bool (decide (65536 < lb ∨ 65536 < lw ∨ 65536 < lt ∨ 65536 < ls))) ∧ Below w.heap.size w w' := by
  refine long16_go pb pw pt ps lb cb lw cw lt ct ls cs sky st _ w ?_
  by_cases c1 : 65536 < lb
  · exact .inl ⟨decide_eq_true (by omega), decide_eq_true (.inl c1)⟩
  · by_cases c2 : 65536 < lw
    · exact .inr (.inl ⟨decide_eq_false (by omega), decide_eq_true (by omega), decide_eq_true (.inr (.inl c2))⟩)
    · by_cases c3 : 65536 < lt
      · exact .inr (.inr (.inl ⟨decide_eq_false (by omega), decide_eq_false (by omega), decide_eq_true (by omega), decide_eq_true (.inr (.inr (.inl c3)))⟩))
      · refine .inr (.inr (.inr ⟨decide_eq_false (by omega), decide_eq_false (by omega), decide_eq_false (by omega), ?_⟩))
        by_cases c4 : 65536 < ls
        · rw [decide_eq_true (show (65536 : Int) < ls by omega), decide_eq_true (.inr (.inr (.inr c4)))]
        · rw [decide_eq_false (show ¬ (65536 : Int) < ls by omega), decide_eq_false (by omega)]
end Go.Proofs.YtpfoohpncbkkfaaDoor

namespace Go.Proofs.YtpfoohpncbkkfaaDoor
open Go.RowKit Tf Cu Go.Deep
attribute [local go_sem] run_bits run_from raw_feq raw_fne raw_flt raw_fgt run_neg run_store_float
namespace Fc
/-- an edge of the net -/
theorem edge16 {n gb k : Nat} {v : World} (hn : 1 ≤ n ∧ n ≤ 32) (hk : k < 12 * n * n) (g : GridOf n gb v) : Calls Tryd.prog 14 #[.pointer (some ⟨gb, 0, none⟩), .int .i64 (k : Nat)] v fun e w' => e = .returned (.tuple #[.agg #[.int .i64 (eL n k : Nat), .int .i64 (edT n k % 4 : Nat), .int .i64 (eR n k : Nat), .int .i64 (mt n (edT n k) % 4 : Nat)], .bool true]) ∧ Below v.heap.size v w' := by
  obtain ⟨t1, t2, t3⟩ := edT_spec hn.1 hk
  have e := gEdge_ok hn t1 t2 g
  rw [t3, ← (mt_dec hn.1 t1).1, ← (mt_dec hn.1 t1).2] at e
  exact e
theorem ends16 {n k : Nat} (hn : 1 ≤ n) (hk : k < 12 * n * n) : eL n k < 6 * n * n ∧ eR n k < 6 * n * n ∧ eL n k ≠ eR n k := by
  obtain ⟨t1, t2, t3⟩ := edT_spec hn hk
  refine ⟨t_cell t1, t_cell (mt_lt hn t1), ?_⟩
  have h := (mt_dec hn t1).1
  have h2 : edT n k / 4 < mt n (edT n k) / 4 := by rw [h]; exact of_decide_eq_true t2
  unfold eL eR
  omega
theorem n6_16 {n : Nat} (hn : 1 ≤ n ∧ n ≤ 32) : 6 * n * n ≤ 65536 ∧ 12 * n * n ≤ 65536 ∧ 0 < 6 * n * n ∧ 0 < 12 * n * n := by
  have h := n12 hn
  omega
end Fc
end Go.Proofs.YtpfoohpncbkkfaaDoor

namespace Go.Proofs.YtpfoohpncbkkfaaDoor
open Go.RowKit Tf Cu Go.Deep
attribute [local go_sem] run_bits run_from raw_feq raw_fne raw_flt raw_fgt run_neg run_store_float
namespace Fc
set_option maxRecDepth 100000 in
set_option maxHeartbeats 64000000 in
theorem lake16_at {gb : Nat} (w : World) (g : GridOf 1 gb w) :
    Calls Tryd.prog 25 #[.pointer (some ⟨gb, 0, none⟩)] w fun e w' => ∃ b1 b2 b3 b4, e = .returned (.agg #[.slice (some ⟨b1, 0, none⟩) 6 6, .slice (some ⟨b2, 0, none⟩) 6 6, .slice (some ⟨b3, 0, none⟩) 6 6, .slice (some ⟨b4, 0, none⟩) 12 12, .int .i64 0, .int .i64 0]) ∧ Below w.heap.size w w' ∧ w'.rowIs b1 22 6 (fun _ => .float .f64 0) ∧ w'.rowIs b2 2 6 (fun i => .int .i64 (lkW i)) ∧ w'.rowIs b3 2 6 (fun _ => .int .i64 0) ∧ w'.rowIs b4 22 12 (fun _ => .float .f64 0) ∧ ((w.heap.size ≤ b1 ∧ w.heap.size ≤ b2 ∧ w.heap.size ≤ b3 ∧ w.heap.size ≤ b4) ∧ b1 ≠ b2 ∧ b1 ≠ b4 ∧ b2 ≠ b4 ∧ b3 ≠ b4 ∧ b3 ≠ b2) := by
  have CC : Hid (∀ v, Ab w v → Calls Tryd.prog 36 #[.pointer (some ⟨gb, 0, none⟩)] v fun e w' => e = .returned (.int .i64 6) ∧ w' = v) := fun v hv => gCells_at (g.to hv)
  have CE : Hid (∀ v, Ab w v → Calls Tryd.prog 28 #[.pointer (some ⟨gb, 0, none⟩)] v fun e w' => e = .returned (.int .i64 12) ∧ w' = v) := fun v hv => gEdges_at (g.to hv)
  have M1 : ∀ v : World, (Instr.makeSlice 26 (.int .i64 6) (.int .i64 6)).run Tryd.prog v = .ok (.slice (some ⟨v.heap.size, 0, none⟩) 6 6) (v.alloc (Obj.cells (madeCells #[.float .f64 0] 6) 22)) := fun v => by
    exact run_make_row' (P := Tryd.prog) 26 22 (.float .f64 0) 8 Tryd.underlying26 infoF64 rfl .i64 .i64 6 (by omega) (by omega) v
  have M2 : ∀ v : World, (Instr.makeSlice 27 (.int .i64 6) (.int .i64 6)).run Tryd.prog v = .ok (.slice (some ⟨v.heap.size, 0, none⟩) 6 6) (v.alloc (Obj.cells (madeCells #[.int .i64 0] 6) 2)) := fun v => by
    exact run_make_row' (P := Tryd.prog) 27 2 (.int .i64 0) 8 Tryd.underlying27 info64 rfl .i64 .i64 6 (by omega) (by omega) v
  have M3 : ∀ v : World, (Instr.makeSlice 26 (.int .i64 12) (.int .i64 12)).run Tryd.prog v = .ok (.slice (some ⟨v.heap.size, 0, none⟩) 12 12) (v.alloc (Obj.cells (madeCells #[.float .f64 0] 12) 22)) := fun v => by
    exact run_make_row' (P := Tryd.prog) 26 22 (.float .f64 0) 8 Tryd.underlying26 infoF64 rfl .i64 .i64 12 (by omega) (by omega) v
  have AL : ∀ v : World, (Instr.alloc 29 true (.tuple #[])).run Tryd.prog v = .ok (.pointer (some ⟨v.heap.size, 0, none⟩)) (v.alloc (.cells #[.slice none 0 0, .slice none 0 0, .slice none 0 0, .slice none 0 0, .int .i64 0, .int .i64 0] 29)) := fun v => by
    simp [go_sem]
  have A0 : Hid (Ab w (w.alloc (.cells #[.slice none 0 0, .slice none 0 0, .slice none 0 0, .slice none 0 0, .int .i64 0, .int .i64 0] 29))) := bl1 _ _
  go_enter Tryd.func25, Tryd.ntmps25
  go_wp2_with fail
  refine (CC.out _ A0.out).mono ?_
  rintro e9 vq ⟨rfl, hvq⟩
  have hvq2 := hvq.symm
  subst hvq2
  go_wp2_with fail
  refine (CE.out _ A0.out).mono ?_
  rintro e9 vq ⟨rfl, hvq⟩
  have hvq2 := hvq.symm
  subst hvq2
  go_upto_region 4 with fail
  generalize hW : World.alloc w _ = W at *
  go_cut [4] from 22 to 31 (fun s4 wx => ∃ g4 b1 b2 b3 b4, s4 = .pointer (some ⟨g4, 0, none⟩) ∧ Ab W wx ∧ wx.heap[g4]? = some (.cells #[.slice (some ⟨b1, 0, none⟩) 6 6, .slice (some ⟨b2, 0, none⟩) 6 6, .slice (some ⟨b3, 0, none⟩) 6 6, .slice (some ⟨b4, 0, none⟩) 12 12, .int .i64 0, .int .i64 0] 29) ∧ wx.heap[b1]? = some (Obj.cells (madeCells #[.float .f64 0] 6) 22) ∧ wx.heap[b2]? = some (Obj.cells (madeCells #[.int .i64 0] 6) 2) ∧ wx.heap[b3]? = some (Obj.cells (madeCells #[.int .i64 0] 6) 2) ∧ wx.heap[b4]? = some (Obj.cells (madeCells #[.float .f64 0] 12) 22) ∧ W.heap.size ≤ g4 ∧ W.heap.size ≤ b1 ∧ W.heap.size ≤ b2 ∧ W.heap.size ≤ b3 ∧ W.heap.size ≤ b4 ∧ g4 ≠ b1 ∧ g4 ≠ b2 ∧ g4 ≠ b3 ∧ g4 ≠ b4 ∧ b1 ≠ b2 ∧ b1 ≠ b3 ∧ b1 ≠ b4 ∧ b2 ≠ b3 ∧ b2 ≠ b4 ∧ b3 ≠ b4)
  case first =>
    obtain ⟨UU, E, hF1, hF2⟩ := cls W.drew
    have HU := hid hF2
    clear hF1 hF2
    refine region_free 11 (fun k => if k = 1 then some ((Obj.cells (madeCells #[.float .f64 0] 6) 22), fun b => .slice (some ⟨b, 0, none⟩) 6 6) else if k = 3 then some ((Obj.cells (madeCells #[.int .i64 0] 6) 2), fun b => .slice (some ⟨b, 0, none⟩) 6 6) else if k = 5 then some ((Obj.cells (madeCells #[.int .i64 0] 6) 2), fun b => .slice (some ⟨b, 0, none⟩) 6 6) else if k = 8 then some ((Obj.cells (madeCells #[.float .f64 0] 12) 22), fun b => .slice (some ⟨b, 0, none⟩) 12 12) else if k = 10 then some ((.cells #[.slice none 0 0, .slice none 0 0, .slice none 0 0, .slice none 0 0, .int .i64 0, .int .i64 0] 29), fun b => .pointer (some ⟨b, 0, none⟩)) else none) (by kernel_rfl) (by kernel_rfl) (by kernel_rfl) ?_
    simp only [List.take_succ_cons, List.take_zero]
    refine wpFree_one HU (by rfl) (by rfl) ?_
    go_big_quiet_step (with_reducible rfl)
    refine wpQuiet_nil ?_
    refine wpFree_lay (ob := (Obj.cells (madeCells #[.float .f64 0] 6) 22)) (mk := fun b => .slice (some ⟨b, 0, none⟩) 6 6) (by rfl) (by kernel_rfl) ?_ ?_
    · refine lay_make (vx := .int .i64 6) (vy := .int .i64 6) (ob := (Obj.cells (madeCells #[.float .f64 0] 6) 22)) (mk := fun b => .slice (some ⟨b, 0, none⟩) 6 6) rfl ?_ ?_ ?_
      · rfl
      · rfl
      · exact M1
    intro b1 fb1
    simp only [Act.put, List.setIfInBounds_toArray, List.set_cons_succ, List.set_cons_zero]
    refine wpFree_one HU (by rfl) (by rfl) ?_
    go_big_quiet_step (with_reducible rfl)
    refine wpQuiet_nil ?_
    refine wpFree_lay (ob := (Obj.cells (madeCells #[.int .i64 0] 6) 2)) (mk := fun b => .slice (some ⟨b, 0, none⟩) 6 6) (by rfl) (by kernel_rfl) ?_ ?_
    · refine lay_make (vx := .int .i64 6) (vy := .int .i64 6) (ob := (Obj.cells (madeCells #[.int .i64 0] 6) 2)) (mk := fun b => .slice (some ⟨b, 0, none⟩) 6 6) rfl ?_ ?_ ?_
      · rfl
      · rfl
      · exact M2
    intro b2 fb2
    simp only [Act.put, List.setIfInBounds_toArray, List.set_cons_succ, List.set_cons_zero]
    refine wpFree_one HU (by rfl) (by rfl) ?_
    go_big_quiet_step (with_reducible rfl)
    refine wpQuiet_nil ?_
    refine wpFree_lay (ob := (Obj.cells (madeCells #[.int .i64 0] 6) 2)) (mk := fun b => .slice (some ⟨b, 0, none⟩) 6 6) (by rfl) (by kernel_rfl) ?_ ?_
    · refine lay_make (vx := .int .i64 6) (vy := .int .i64 6) (ob := (Obj.cells (madeCells #[.int .i64 0] 6) 2)) (mk := fun b => .slice (some ⟨b, 0, none⟩) 6 6) rfl ?_ ?_ ?_
      · rfl
      · rfl
      · exact M2
    intro b3 fb3
    simp only [Act.put, List.setIfInBounds_toArray, List.set_cons_succ, List.set_cons_zero]
    refine wpFree_one HU (by rfl) (by rfl) ?_
    go_big_quiet_step (with_reducible rfl)
    refine wpQuiet_nil ?_
    refine wpFree_one HU (by rfl) (by rfl) ?_
    go_big_quiet_step (with_reducible rfl)
    refine wpQuiet_nil ?_
    refine wpFree_lay (ob := (Obj.cells (madeCells #[.float .f64 0] 12) 22)) (mk := fun b => .slice (some ⟨b, 0, none⟩) 12 12) (by rfl) (by kernel_rfl) ?_ ?_
    · refine lay_make (vx := .int .i64 12) (vy := .int .i64 12) (ob := (Obj.cells (madeCells #[.float .f64 0] 12) 22)) (mk := fun b => .slice (some ⟨b, 0, none⟩) 12 12) rfl ?_ ?_ ?_
      · rfl
      · rfl
      · exact M3
    intro b4 fb4
    simp only [Act.put, List.setIfInBounds_toArray, List.set_cons_succ, List.set_cons_zero]
    refine wpFree_one HU (by rfl) (by rfl) ?_
    go_big_quiet_step (with_reducible rfl)
    refine wpQuiet_nil ?_
    refine wpFree_lay (ob := (.cells #[.slice none 0 0, .slice none 0 0, .slice none 0 0, .slice none 0 0, .int .i64 0, .int .i64 0] 29)) (mk := fun b => .pointer (some ⟨b, 0, none⟩)) (by rfl) (by kernel_rfl) ?_ ?_
    · refine lay_alloc (ob := (.cells #[.slice none 0 0, .slice none 0 0, .slice none 0 0, .slice none 0 0, .int .i64 0, .int .i64 0] 29)) (mk := fun b => .pointer (some ⟨b, 0, none⟩)) rfl ?_
      · exact AL
    intro g4 fg4
    simp only [Act.put, List.setIfInBounds_toArray, List.set_cons_succ, List.set_cons_zero]

    refine wpFree_nil ?_
    intro wz hz
    have h1 := hz.at (i := 1) (b := b1) (ob := (Obj.cells (madeCells #[.float .f64 0] 6) 22)) (by rfl) (by rfl)
    have h2 := hz.at (i := 3) (b := b2) (ob := (Obj.cells (madeCells #[.int .i64 0] 6) 2)) (by rfl) (by rfl)
    have h3 := hz.at (i := 5) (b := b3) (ob := (Obj.cells (madeCells #[.int .i64 0] 6) 2)) (by rfl) (by rfl)
    have h4 := hz.at (i := 8) (b := b4) (ob := (Obj.cells (madeCells #[.float .f64 0] 12) 22)) (by rfl) (by rfl)
    have h5 := hz.at (i := 10) (b := g4) (ob := (.cells #[.slice none 0 0, .slice none 0 0, .slice none 0 0, .slice none 0 0, .int .i64 0, .int .i64 0] 29)) (by rfl) (by rfl)
    have n12 : b1 ≠ b2 := fb2.2 1 b1 (by rfl)
    have n13 : b1 ≠ b3 := fb3.2 1 b1 (by rfl)
    have n14 : b1 ≠ b4 := fb4.2 1 b1 (by rfl)
    have n15 : b1 ≠ g4 := fg4.2 1 b1 (by rfl)
    have n23 : b2 ≠ b3 := fb3.2 3 b2 (by rfl)
    have n24 : b2 ≠ b4 := fb4.2 3 b2 (by rfl)
    have n25 : b2 ≠ g4 := fg4.2 3 b2 (by rfl)
    have n34 : b3 ≠ b4 := fb4.2 5 b3 (by rfl)
    have n35 : b3 ≠ g4 := fg4.2 5 b3 (by rfl)
    have n45 : b4 ≠ g4 := fg4.2 8 b4 (by rfl)
    have AZ : Ab W wz := (Ab.refl W).drew.trans hz.1
    have RZ := hid h5.1
    have HH := hid (And.intro h1 (And.intro h2 (And.intro h3 (And.intro h4 h5))))
    have NN := hid (And.intro n12 (And.intro n13 (And.intro n14 (And.intro n15 (And.intro n23 (And.intro n24 (And.intro n25 (And.intro n34 (And.intro n35 n45)))))))))
    have HAZ := hid AZ
    clear hz fb1 fb2 fb3 fb4 fg4 h1 h2 h3 h4 h5 n12 n13 n14 n15 n23 n24 n25 n34 n35 n45 AZ HU
    clear E UU
    have t0 := cell_of_row _ _ 0 _ _ _ RZ.out
    have t1 := cell_of_row _ _ 1 _ _ _ RZ.out
    have t2 := cell_of_row _ _ 2 _ _ _ RZ.out
    have t3 := cell_of_row _ _ 3 _ _ _ RZ.out
    have t4 := cell_of_row _ _ 4 _ _ _ RZ.out
    have t5 := cell_of_row _ _ 5 _ _ _ RZ.out
    have f0 := free_row RZ.out 0
    have f1 := free_row RZ.out 1
    have f2 := free_row RZ.out 2
    have f3 := free_row RZ.out 3
    have f4 := free_row RZ.out 4
    have f5 := free_row RZ.out 5
    simp only [List.drop_succ_cons, List.drop_zero]
    go_wp2_with fail
    go_meet
    obtain ⟨⟨k1, l1⟩, ⟨k2, l2⟩, ⟨k3, l3⟩, ⟨k4, l4⟩, ⟨k5, l5⟩⟩ := HH.out
    obtain ⟨n12, n13, n14, n15, n23, n24, n25, n34, n35, n45⟩ := NN.out
    have st : ∀ (b : Nat) (o : Obj), b ≠ g4 → wz.heap[b]? = some o → ∀ x0 x1 x2 x3 x4 x5, ((((((wz.setCell ⟨g4, 0, none⟩ x0).setCell ⟨g4, 1, none⟩ x1).setCell ⟨g4, 2, none⟩ x2).setCell ⟨g4, 3, none⟩ x3).setCell ⟨g4, 4, none⟩ x4).setCell ⟨g4, 5, none⟩ x5).heap[b]? = some o := fun b o hb h x0 x1 x2 x3 x4 x5 => by
      rw [heap_set_ne hb, heap_set_ne hb, heap_set_ne hb, heap_set_ne hb, heap_set_ne hb, heap_set_ne hb]
      exact h
    refine ⟨g4, b1, b2, b3, b4, rfl, ?_, row6 k5, st b1 _ n15 k1 _ _ _ _ _ _, st b2 _ n25 k2 _ _ _ _ _ _, st b3 _ n35 k3 _ _ _ _ _ _, st b4 _ n45 k4 _ _ _ _ _ _, l5, l1, l2, l3, l4, Ne.symm n15, Ne.symm n25, Ne.symm n35, Ne.symm n45, n12, n13, n14, n23, n24, n34⟩
    exact (((((HAZ.out.setk l5 _).setk l5 _).setk l5 _).setk l5 _).setk l5 _).setk l5 _
  case rest =>
    obtain ⟨g4, b1, b2, b3, b4, rfl, a4, r4, m1, m2, m3, m4, l5, l1, l2, l3, l4, n51, n52, n53, n54, n12, n13, n14, n23, n24, n34⟩ := hcut
    obtain ⟨gd, hgd⟩ : ∃ x, w.heap.size = x := ⟨_, rfl⟩
    have HL : Hid (gd + 1 ≤ b1 ∧ gd + 1 ≤ b2 ∧ gd + 1 ≤ b3 ∧ gd + 1 ≤ b4 ∧ gd + 1 ≤ g4) := by
      rw [← hW, size1] at l1 l2 l3 l4 l5
      rw [← hgd]
      exact ⟨l1, l2, l3, l4, l5⟩
    have NN : Hid (g4 ≠ b2 ∧ b1 ≠ b2 ∧ b3 ≠ b2 ∧ b4 ≠ b2 ∧ b1 ≠ b4 ∧ b3 ≠ b4) := ⟨n52, n12, Ne.symm n23, Ne.symm n24, n14, n34⟩
    have ZR : Hid (W.heap[gd]? = some (.cells #[.slice none 0 0, .slice none 0 0, .slice none 0 0, .slice none 0 0, .int .i64 0, .int .i64 0] 29)) := by rw [← hW, ← hgd]; exact heap_alloc_new _ _
    have AWW : Hid (Ab w W) := A0.out
    have FI := hid (show LkI w gd g4 b1 b2 b3 b4 0 wc from ⟨AWW.out.trans a4, r4, Ab.heap a4 ZR.out, made_row m1, (made_row m2).congr (fun i _ => by simp), made_row m3, made_row m4⟩)
    have HG := hid g
    have HN : Hid (w.heap.size = gd) := hgd
    rw [hgd]
    clear a4 r4 m1 m2 m3 m4 l1 l2 l3 l4 l5 n51 n52 n53 n54 n12 n13 n14 n23 n24 n34 hgd hW ZR AWW g CC CE M1 M2 M3 AL A0
    go_wp2
    go_loopw [5] (fun iv wr => ∃ c : Nat, c ≤ 6 ∧ iv = .int .i64 (c : Nat) ∧ LkI w gd g4 b1 b2 b3 b4 c wr) (fun iv _ => 6 - (intOf iv).toNat)
    case atStart => exact ⟨0, by omega, rfl, FI.out⟩
    case round =>
      obtain ⟨c, hc, rfl, F⟩ := hrel
      clear FI
      have FF := hid F
      clear F
      by_cases hc6 : c < 6
      · have hc' : (c : Int) < 6 := by omega
        have HC6 := hid hc6
        have AR : Hid (∀ v, Ab w v → Calls Tryd.prog 17 #[.pointer (some ⟨gb, 0, none⟩), .int .i64 (c : Nat)] v fun e w' => e = .returned (.int .i64 1431655765) ∧ Below v.heap.size v w') := fun v hv => by
          have h := gArea_ok (n := 1) (by decide) hc6 (HG.out.to hv)
          rwa [ar13 c hc6] at h
        clear hc6
        go_upto_region 8 with fail
        obtain ⟨UU, E, hF1, hF2⟩ := cls wr
        have HU := hid hF2
        have HU1 := hid hF1
        have x1 : ∀ u, (E u).cell? ⟨g4, 1, none⟩ = some (.slice (some ⟨b2, 0, none⟩) 6 6) := fun u => cell_of_row _ _ 1 _ _ _ (FF.out.to (hF1 u)).2.1
        have HX : Hid (∀ u, Ab w (E u)) := fun u => (FF.out.to (hF1 u)).1
        have DD0 := HU.out _ (Ab.refl wr).drew
        clear hF1 hF2
        refine region_tail 7 E (by kernel_rfl) (by kernel_rfl) (by kernel_rfl) DD0 ?_
        simp only [List.take_succ_cons, List.take_zero, List.drop_succ_cons, List.drop_zero]
        repeat (go_big_quiet_step (first
          | (with_reducible rfl)
          | (go_at_call 17; exact calls_cls HU HU1 (AR.out _ (HX.out _)))))
        refine wpQuiet_nil ?_
        intro vz hwz
        obtain ⟨u0, hu⟩ := hwz
        have AZ : Hid (Ab wr vz) := by rw [hu]; exact HU1.out u0
        clear hu u0
        clear HU HU1 HX DD0 x1
        clear E UU
        have FZ := hid (FF.out.to AZ.out)
        have z1 := FZ.out.2.2.2.2.1.cell HC6.out
        have z2 := FZ.out.2.2.2.2.1.frozen c
        go_upto_region 9 with fail
        have F2 := hid (FZ.out.set NN.out HL.out c 1431655765 (by rw [HN.out]; exact Nat.le_refl _))
        clear z1 z2 FZ FF AZ
        generalize World.setCell vz _ _ = v2 at *
        by_cases c1 : c = 1
        · subst c1
          have y1 := cell_of_row _ _ 1 _ _ _ F2.out.2.1
          have p1 : v2.cell? ⟨b2, 1, none⟩ = some (.int .i64 1431655765) := by rw [F2.out.2.2.2.2.1.cell HC6.out]; simp
          have p2 := F2.out.2.2.2.2.1.frozen 1
          go_upto_region 10 with fail
          clear y1 p1 p2
          obtain ⟨UU, E, hF1, hF2⟩ := cls v2
          have HU := hid hF2
          have HU1 := hid hF1
          have x1 : ∀ u, (E u).cell? ⟨g4, 1, none⟩ = some (.slice (some ⟨b2, 0, none⟩) 6 6) := fun u => cell_of_row _ _ 1 _ _ _ ((hF1 u).heap F2.out.2.1)
          have x2 : ∀ u, (E u).cell? ⟨b2, 1, none⟩ = some (.int .i64 1431655765) := fun u => by rw [(rowIs.ab F2.out.2.2.2.2.1 (hF1 u)).cell HC6.out]; simp
          have DD0 := HU.out _ (Ab.refl v2).drew
          clear hF1 hF2
          refine region_tail 10 E (by kernel_rfl) (by kernel_rfl) (by kernel_rfl) DD0 ?_
          simp only [List.take_succ_cons, List.take_zero, List.drop_succ_cons, List.drop_zero]
          repeat (go_big_quiet_step (with_reducible rfl))
          refine wpQuiet_nil ?_
          intro vz hwz
          obtain ⟨u0, hu⟩ := hwz
          have AZ : Hid (Ab v2 vz) := by rw [hu]; exact HU1.out u0
          clear hu u0
          clear HU HU1 DD0 x1 x2
          clear E UU
          have F3 := hid (F2.out.to2 AZ.out)
          have z1 := F3.out.2.2.2.2.1.cell HC6.out
          have z2 := F3.out.2.2.2.2.1.frozen 1
          go_wp2
          refine ⟨⟨2, by omega, by simp, ?_⟩, by simp [intOf]⟩
          exact (F3.out.set NN.out HL.out 1 2863311530 (by rw [HN.out]; exact Nat.le_refl _)).fin (fun i => by
            by_cases e : i = 1
            · simp [e, lkW]
            · by_cases e2 : i < 1
              · have : i < 2 := by omega
                simp [e, e2, this]
              · have : ¬ i < 2 := by omega
                simp [e, e2, this])
        · have c2 : ((c : Int) == 1) = false := by rw [beq_eq_false_iff_ne]; omega
          go_wp2
          refine ⟨⟨c + 1, by have := HC6.out; omega, by simp, ?_⟩, by simp [intOf]; have := HC6.out; omega⟩
          exact F2.out.fin (fun i => by
            by_cases e : i = c
            · subst e
              simp [lkW, c1]
            · by_cases l : i < c
              · simp [e, l, show i < c + 1 by omega]
              · simp [e, l, show ¬ i < c + 1 by omega])
      · have e6 : c = 6 := by omega
        subst e6
        have s0 := cell_of_row _ _ 0 _ _ _ FF.out.2.1
        have s1 := cell_of_row _ _ 1 _ _ _ FF.out.2.1
        have s2 := cell_of_row _ _ 2 _ _ _ FF.out.2.1
        have s3 := cell_of_row _ _ 3 _ _ _ FF.out.2.1
        have s4 := cell_of_row _ _ 4 _ _ _ FF.out.2.1
        have s5 := cell_of_row _ _ 5 _ _ _ FF.out.2.1
        have RZ := FF.out.2.2.1
        have t0 := cell_of_row _ _ 0 _ _ _ RZ
        have t1 := cell_of_row _ _ 1 _ _ _ RZ
        have t2 := cell_of_row _ _ 2 _ _ _ RZ
        have t3 := cell_of_row _ _ 3 _ _ _ RZ
        have t4 := cell_of_row _ _ 4 _ _ _ RZ
        have t5 := cell_of_row _ _ 5 _ _ _ RZ
        have f0 := free_row RZ 0
        have f1 := free_row RZ 1
        have f2 := free_row RZ 2
        have f3 := free_row RZ 3
        have f4 := free_row RZ 4
        have f5 := free_row RZ 5
        have ROW := hid (row6 (x := .slice (some ⟨b1, 0, none⟩) 6 6) (y := .slice (some ⟨b2, 0, none⟩) 6 6) (z := .slice (some ⟨b3, 0, none⟩) 6 6) (p := .slice (some ⟨b4, 0, none⟩) 12 12) (q := .int .i64 0) (r := .int .i64 0) RZ)
        clear RZ
        go_wp2
        have BN : Hid (b1 ≠ gd ∧ b2 ≠ gd ∧ b3 ≠ gd ∧ b4 ≠ gd) := by
          have := HL.out
          exact ⟨by omega, by omega, by omega, by omega⟩
        have G1 := FF.out.2.2.2.1
        have G2 := FF.out.2.2.2.2.1
        have G3 := FF.out.2.2.2.2.2.1
        have G4 := FF.out.2.2.2.2.2.2
        have GA := FF.out.1
        refine bodyPost_ret ?_ rfl ⟨b1, b2, b3, b4, rfl, ?_, ?_, ?_, ?_, ?_, ?_⟩
        · exact results_cell_row Tryd.results25 _ _ gd _ _ (0, 0) _ rfl ROW.out Tryd.underlying29 rfl (by kernel_rfl)
        · exact (((((GA.setk (by rw [HN.out]; omega) _).setk (by rw [HN.out]; omega) _).setk (by rw [HN.out]; omega) _).setk (by rw [HN.out]; omega) _).setk (by rw [HN.out]; omega) _).setk (by rw [HN.out]; omega) _
        · exact (((((G1.setOther BN.out.1 _).setOther BN.out.1 _).setOther BN.out.1 _).setOther BN.out.1 _).setOther BN.out.1 _).setOther BN.out.1 _
        · exact ((((((G2.congr (fun i hi => by simp [hi])).setOther BN.out.2.1 _).setOther BN.out.2.1 _).setOther BN.out.2.1 _).setOther BN.out.2.1 _).setOther BN.out.2.1 _).setOther BN.out.2.1 _
        · exact (((((G3.setOther BN.out.2.2.1 _).setOther BN.out.2.2.1 _).setOther BN.out.2.2.1 _).setOther BN.out.2.2.1 _).setOther BN.out.2.2.1 _).setOther BN.out.2.2.1 _
        · exact (((((G4.setOther BN.out.2.2.2 _).setOther BN.out.2.2.2 _).setOther BN.out.2.2.2 _).setOther BN.out.2.2.2 _).setOther BN.out.2.2.2 _).setOther BN.out.2.2.2 _
        · have := HL.out
          exact ⟨⟨by rw [HN.out]; omega, by rw [HN.out]; omega, by rw [HN.out]; omega, by rw [HN.out]; omega⟩, NN.out.2.1, NN.out.2.2.2.2.1, Ne.symm NN.out.2.2.2.1, NN.out.2.2.2.2.2, NN.out.2.2.1⟩
end Fc
end Go.Proofs.YtpfoohpncbkkfaaDoor

namespace Go.Proofs.YtpfoohpncbkkfaaDoor
open Go.RowKit Tf Cu Go.Deep
attribute [local go_sem] run_bits run_from raw_feq raw_fne raw_flt raw_fgt run_neg run_store_float
namespace Fc
theorem lvW_in (i : Nat) : -9223372036854775808 ≤ lvW i ∧ lvW i ≤ 9223372036854775807 := by
  unfold lvW lkW
  split
  · omega
  · split <;> omega
theorem same16 (x : Nat) (v : World) : Calls Tryd.prog 12 #[.float .f64 x, .float .f64 x] v fun e w' => e = .returned (.bool true) ∧ w' = v := by
  go_enter Tryd.func12, Tryd.ntmps12
  go_wp2
  go_ret
  exact ⟨rfl, rfl⟩
set_option maxRecDepth 100000 in
set_option maxHeartbeats 8000000 in
theorem lives16_at (OC : OpenC) (SC : SpeedsC) (w : World) (hF : Fr w) : Calls Tryd.prog 9 #[] w fun e w' => e = .returned (.bool true) ∧ Below w.heap.size w w' := by
  have NW := hid (new_at 1 w (by omega) hF)
  have HA := hid SC
  have HO := hid OC
  clear hF SC OC
  go_enter Tryd.func9, Tryd.ntmps9
  go_wp2_with fail
  refine NW.out.mono ?_
  rintro e v1 ⟨gb, rfl, a1, -, g1⟩
  have AW1 : Hid (Ab w v1) := a1
  have G1 : Hid (GridOf 1 gb v1) := g1
  clear a1 g1 NW
  have LK := hid (lake16_at v1 G1.out)
  go_wp2_with fail
  refine LK.out.mono ?_
  rintro e v2 ⟨b1, b2, b3, b4, rfl, k2, r1, r2, r3, r4, nb⟩
  have AV : Hid (Ab v1 (v2.alloc (.cells #[.slice (some ⟨b1, 0, none⟩) 6 6, .slice (some ⟨b2, 0, none⟩) 6 6, .slice (some ⟨b3, 0, none⟩) 6 6, .slice (some ⟨b4, 0, none⟩) 12 12, .int .i64 0, .int .i64 0] 29))) := Ab.alloc (show Ab v1 v2 from k2) _
  have SR : Hid ((v2.alloc (.cells #[.slice (some ⟨b1, 0, none⟩) 6 6, .slice (some ⟨b2, 0, none⟩) 6 6, .slice (some ⟨b3, 0, none⟩) 6 6, .slice (some ⟨b4, 0, none⟩) 12 12, .int .i64 0, .int .i64 0] 29)).heap[v2.heap.size]? = some (.cells #[.slice (some ⟨b1, 0, none⟩) 6 6, .slice (some ⟨b2, 0, none⟩) 6 6, .slice (some ⟨b3, 0, none⟩) 6 6, .slice (some ⟨b4, 0, none⟩) 12 12, .int .i64 0, .int .i64 0] 29)) := heap_alloc_new _ _
  have R1 := hid (r1.alloc (.cells #[.slice (some ⟨b1, 0, none⟩) 6 6, .slice (some ⟨b2, 0, none⟩) 6 6, .slice (some ⟨b3, 0, none⟩) 6 6, .slice (some ⟨b4, 0, none⟩) 12 12, .int .i64 0, .int .i64 0] 29))
  have R2 := hid (r2.alloc (.cells #[.slice (some ⟨b1, 0, none⟩) 6 6, .slice (some ⟨b2, 0, none⟩) 6 6, .slice (some ⟨b3, 0, none⟩) 6 6, .slice (some ⟨b4, 0, none⟩) 12 12, .int .i64 0, .int .i64 0] 29))
  have R4 := hid (r4.alloc (.cells #[.slice (some ⟨b1, 0, none⟩) 6 6, .slice (some ⟨b2, 0, none⟩) 6 6, .slice (some ⟨b3, 0, none⟩) 6 6, .slice (some ⟨b4, 0, none⟩) 12 12, .int .i64 0, .int .i64 0] 29))
  have NB : Hid (((v1.heap.size ≤ b1 ∧ v1.heap.size ≤ b2 ∧ v1.heap.size ≤ b3 ∧ v1.heap.size ≤ b4) ∧ b1 ≠ b2 ∧ b1 ≠ b4 ∧ b2 ≠ b4 ∧ b3 ≠ b4 ∧ b3 ≠ b2) ∧ v2.heap.size ≠ b1 ∧ v2.heap.size ≠ b2) := ⟨nb, by have := r1.lt; omega, by have := r2.lt; omega⟩
  clear k2 r1 r2 r3 r4 nb LK
  go_upto_region 5 with fail
  obtain ⟨gs, hgs⟩ : ∃ x, v2.heap.size = x := ⟨_, rfl⟩
  generalize hV : v2.alloc (.cells #[.slice (some ⟨b1, 0, none⟩) 6 6, .slice (some ⟨b2, 0, none⟩) 6 6, .slice (some ⟨b3, 0, none⟩) 6 6, .slice (some ⟨b4, 0, none⟩) 12 12, .int .i64 0, .int .i64 0] 29) = V at *
  rw [hgs] at SR NB
  rw [hgs]
  clear hV hgs
  have c0 := cell_of_row _ _ 0 _ _ _ SR.out
  have c1 := cell_of_row _ _ 1 _ _ _ SR.out
  have c2 := cell_of_row _ _ 2 _ _ _ SR.out
  have c3 := cell_of_row _ _ 3 _ _ _ SR.out
  have c4 := cell_of_row _ _ 4 _ _ _ SR.out
  have c5 := cell_of_row _ _ 5 _ _ _ SR.out
  have I1 := hid (rowIs.fl (f := fun _ => 0) R1.out (fun _ _ => by decide))
  have I2 := hid (rowIs.in R2.out (fun i _ => by unfold lkW; split <;> omega))
  have I4 := hid (rowIs.fl (f := fun _ => 0) R4.out (fun _ _ => by decide))
  have AL := hid ((HA.out 1 gb 1 4602678819172646912 4607182418800017408 0 0 false none 0 0 (some ⟨b1, 0, none⟩) 6 6 (fun _ => 0) (some ⟨b2, 0, none⟩) 6 6 lkW (some ⟨b3, 0, none⟩) 6 6 (some ⟨b4, 0, none⟩) 12 12 (fun _ => 0) 0 0 V (by omega) (G1.out.to AV.out) I1.out I2.out I4.out ⟨by decide, by decide, by decide⟩).1 ⟨rfl, rfl, rfl, rfl⟩)
  go_wp2_with fail
  refine AL.out.mono ?_
  rintro e9 v3 ⟨u, rfl, k3, o3⟩
  obtain ⟨bl, cap, Fl, rfl, hB, h1, h2, rl, hf⟩ := ownG_two (n := 12) o3 (by omega)
  have A3 : Hid (Ab v1 v3) := AV.out.call k3
  have S3 := hid (Ab.heap k3 SR.out)
  have T1 := hid (rowIs.ab R1.out k3)
  have T2 := hid (rowIs.ab R2.out k3)
  have T4 := hid (rowIs.ab R4.out k3)
  have N3 : Hid (bl ≠ b1 ∧ bl ≠ b2) := ⟨by have := R1.out.lt; omega, by have := R2.out.lt; omega⟩
  obtain ⟨l0, hl0⟩ : ∃ x, spE 1 4607182418800017408 4602678819172646912 0 (fun _ => 0) lkW (fun _ => 0) 0 = x := ⟨_, rfl⟩
  have d0 : flt l0 0 = true := by rw [← hl0]; exact lf_0
  have E0 : Hid (v3.cell? ⟨bl, 0, none⟩ = some (.float .f64 l0)) := by
    have h := rl.cell (i := 0) (by omega)
    rw [hf 0 (by omega), hl0] at h
    exact h
  have E1 : Hid (v3.cell? ⟨bl, 1, none⟩ = some (.float .f64 0)) := by
    have h := rl.cell (i := 1) (by omega)
    rw [hf 1 (by omega), lf_1] at h
    exact h
  clear o3 hB h2 rl hf k3 AL hl0 I1 I2 I4 R1 R2 R4 SR AV c0 c1 c2 c3 c4 c5
  have c0 := cell_of_row _ _ 0 _ _ _ S3.out
  have x1 := E1.out
  go_wp2_with fail
  refine (same16 0 _).mono ?_
  rintro e9 v4 ⟨rfl, hv⟩
  have hv2 := hv.symm
  subst hv2
  clear c0 x1
  have c0 := cell_of_row _ _ 0 _ _ _ S3.out
  have y1 := T1.out.cell (i := 0) (by decide)
  have z1 := T1.out.frozen 0
  go_upto_region 10 with fail
  clear c0 y1 z1
  have S4 : Hid ((v3.setCell ⟨b1, 0, none⟩ (.float .f64 4613937818241073152)).heap[gs]? = some (.cells #[.slice (some ⟨b1, 0, none⟩) 6 6, .slice (some ⟨b2, 0, none⟩) 6 6, .slice (some ⟨b3, 0, none⟩) 6 6, .slice (some ⟨b4, 0, none⟩) 12 12, .int .i64 0, .int .i64 0] 29)) := by show _ = _; rw [heap_set_ne NB.out.2.1]; exact S3.out
  have A4 : Hid (Ab v1 (v3.setCell ⟨b1, 0, none⟩ (.float .f64 4613937818241073152))) := A3.out.setk NB.out.1.1.1 _
  have U1 := hid ((T1.out.set 0 (.float .f64 4613937818241073152)).congr (g := fun i => .float .f64 (lvB i)) (fun i _ => by unfold lvB; by_cases e : i = 0 <;> simp [e]))
  have U2 := hid (T2.out.setOther (a := ⟨b1, 0, none⟩) (Ne.symm NB.out.1.2.1) (.float .f64 4613937818241073152))
  have U4 := hid (T4.out.setOther (a := ⟨b1, 0, none⟩) (Ne.symm NB.out.1.2.2.1) (.float .f64 4613937818241073152))
  have F0 : Hid ((v3.setCell ⟨b1, 0, none⟩ (.float .f64 4613937818241073152)).cell? ⟨bl, 0, none⟩ = some (.float .f64 l0)) := by
    show _ = _
    rw [← E0.out]
    exact World.cell?_of_block (Below.heap_setCell _ _ _ _ N3.out.1)
  clear S3 A3 T1 T2 T4 E0 E1
  generalize World.setCell v3 _ _ = v5 at *
  have c0 := cell_of_row _ _ 1 _ _ _ S4.out
  have y1 := U2.out.cell (i := 0) (by decide)
  have z1 := U2.out.frozen 0
  go_upto_region 11 with fail
  clear c0 y1 z1
  have S5 : Hid ((v5.setCell ⟨b2, 0, none⟩ (.int .i64 0)).heap[gs]? = some (.cells #[.slice (some ⟨b1, 0, none⟩) 6 6, .slice (some ⟨b2, 0, none⟩) 6 6, .slice (some ⟨b3, 0, none⟩) 6 6, .slice (some ⟨b4, 0, none⟩) 12 12, .int .i64 0, .int .i64 0] 29)) := by show _ = _; rw [heap_set_ne NB.out.2.2]; exact S4.out
  have A5 : Hid (Ab v1 (v5.setCell ⟨b2, 0, none⟩ (.int .i64 0))) := A4.out.setk NB.out.1.1.2.1 _
  have V1 := hid (U1.out.setOther (a := ⟨b2, 0, none⟩) NB.out.1.2.1 (.int .i64 0))
  have V2 := hid ((U2.out.set 0 (.int .i64 0)).congr (g := fun i => .int .i64 (lvW i)) (fun i _ => by unfold lvW; by_cases e : i = 0 <;> simp [e]))
  have H0 : Hid ((v5.setCell ⟨b2, 0, none⟩ (.int .i64 0)).cell? ⟨bl, 0, none⟩ = some (.float .f64 l0)) := by
    show _ = _
    rw [← F0.out]
    exact World.cell?_of_block (Below.heap_setCell _ _ _ _ N3.out.2)
  have V4 := hid (U4.out.setOther (a := ⟨b2, 0, none⟩) (Ne.symm NB.out.1.2.2.2.1) (.int .i64 0))
  clear S4 A4 U1 U2 U4 F0 N3
  generalize World.setCell v5 _ _ = v6 at *
  have J1 : Hid (∀ v, Ab v6 v → IsFl v (some ⟨b1, 0, none⟩) 6 lvB) := fun v hv => rowIs.fl (rowIs.ab V1.out hv) (fun i _ => by unfold lvB; split <;> decide)
  have J2 : Hid (∀ v, Ab v6 v → IsIn v (some ⟨b2, 0, none⟩) 6 lvW) := fun v hv => rowIs.in (rowIs.ab V2.out hv) (fun i _ => lvW_in i)
  have J4 : Hid (∀ v, Ab v6 v → ∃ Sp, IsFl v (some ⟨b4, 0, none⟩) 12 Sp) := fun v hv => ⟨fun _ => 0, rowIs.fl (rowIs.ab V4.out hv) (fun i _ => by decide)⟩
  have O1 : Hid (∀ v, Ab v6 v → Calls Tryd.prog 15 #[.pointer (some ⟨gb, 0, none⟩), .agg #[.slice (some ⟨b1, 0, none⟩) 6 6, .slice (some ⟨b2, 0, none⟩) 6 6, .slice (some ⟨b3, 0, none⟩) 6 6, .slice (some ⟨b4, 0, none⟩) 12 12, .int .i64 0, .int .i64 0], .int .i64 0] v fun x w' => x = .returned (.bool false) ∧ Below v.heap.size v w') := fun v hv => by
    have h := (HO.out 1 gb (some ⟨b1, 0, none⟩) 6 6 lvB (some ⟨b2, 0, none⟩) 6 6 lvW (some ⟨b3, 0, none⟩) 6 6 (some ⟨b4, 0, none⟩) 12 12 0 0 0 v (by omega) (G1.out.to (A5.out.trans hv)) (J1.out v hv) (J2.out v hv) (J4.out v hv) (by omega)).1 ⟨⟨rfl, rfl, rfl, rfl⟩, by decide⟩
    rw [show (0 : Int).toNat = 0 from rfl, lf_2] at h
    exact h
  have O2 : Hid (∀ v, Ab v6 v → Calls Tryd.prog 15 #[.pointer (some ⟨gb, 0, none⟩), .agg #[.slice (some ⟨b1, 0, none⟩) 6 6, .slice (some ⟨b2, 0, none⟩) 6 6, .slice (some ⟨b3, 0, none⟩) 6 6, .slice (some ⟨b4, 0, none⟩) 12 12, .int .i64 0, .int .i64 0], .int .i64 4] v fun x w' => x = .returned (.bool true) ∧ Below v.heap.size v w') := fun v hv => by
    have h := (HO.out 1 gb (some ⟨b1, 0, none⟩) 6 6 lvB (some ⟨b2, 0, none⟩) 6 6 lvW (some ⟨b3, 0, none⟩) 6 6 (some ⟨b4, 0, none⟩) 12 12 0 0 4 v (by omega) (G1.out.to (A5.out.trans hv)) (J1.out v hv) (J2.out v hv) (J4.out v hv) (by omega)).1 ⟨⟨rfl, rfl, rfl, rfl⟩, by decide⟩
    rw [show (4 : Int).toNat = 4 from rfl, lf_3] at h
    exact h
  have x0 := H0.out
  have c0 := cell_of_row _ _ 0 _ _ _ S5.out
  have c1 := cell_of_row _ _ 1 _ _ _ S5.out
  have c2 := cell_of_row _ _ 2 _ _ _ S5.out
  have c3 := cell_of_row _ _ 3 _ _ _ S5.out
  have c4 := cell_of_row _ _ 4 _ _ _ S5.out
  have c5 := cell_of_row _ _ 5 _ _ _ S5.out
  go_wp2_with fail
  refine (O1.out _ (Ab.refl _)).mono ?_
  rintro e9 v7 ⟨rfl, k7⟩
  have A7 : Hid (Ab v6 v7) := k7
  have S7 := hid (Ab.heap k7 S5.out)
  clear k7 c0 c1 c2 c3 c4 c5 x0
  have c0 := cell_of_row _ _ 0 _ _ _ S7.out
  have c1 := cell_of_row _ _ 1 _ _ _ S7.out
  have c2 := cell_of_row _ _ 2 _ _ _ S7.out
  have c3 := cell_of_row _ _ 3 _ _ _ S7.out
  have c4 := cell_of_row _ _ 4 _ _ _ S7.out
  have c5 := cell_of_row _ _ 5 _ _ _ S7.out
  go_wp2_with fail
  refine (O2.out _ A7.out).mono ?_
  rintro e9 v8 ⟨rfl, k8⟩
  have A8 : Hid (Ab v6 v8) := A7.out.call k8
  clear k8 c0 c1 c2 c3 c4 c5
  go_wp2
  go_ret
  exact ⟨rfl, AW1.out.trans (A5.out.trans A8.out)⟩
end Fc
end Go.Proofs.YtpfoohpncbkkfaaDoor
