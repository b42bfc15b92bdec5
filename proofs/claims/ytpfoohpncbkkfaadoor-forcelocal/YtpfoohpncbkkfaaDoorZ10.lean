/-
  Some of the texts of this proof, one behind the other.
-/
import Derived.Deep.AppendLies
import Derived.OwnWalk
import Derived.Deep.QuietTactic
import Derived.Test.YtpfoohpncbkkfaaDoorZ09
namespace Go.Proofs.YtpfoohpncbkkfaaDoor
open Go.RowKit Tf Cu
theorem arI_top (L : Nat) : 1 ≤ arI L ∧ arI L ≤ 9223372036854775807 := by
  have h : cI .even (arQ L) ≤ 9223372036854775807 := by
    unfold cI
    split
    · rename_i c
      unfold cOk at c
      simp only [Bool.and_eq_true, decide_eq_true_eq] at c
      omega
    · decide
  unfold arI
  omega
/-- the area of a cell -/
def arC (n c : Nat) : Int := arI (ArC n c)
theorem arC_in (n c : Nat) : 1 ≤ arC n c ∧ arC n c ≤ 9223372036854775807 := arI_top _
theorem IsFl.at0 {w : World} {b o len : Nat} {xs : Nat → Nat} (h : IsFl w (some ⟨b, o, none⟩) len xs) {k : Nat} (hk : k < len) : xs k < 18446744073709551616 ∧ b < w.heap.size ∧ w.cell? ⟨b, o + k, none⟩ = some (.float .f64 (xs k)) := by
  obtain ⟨h1, b', o', e, h2, h3⟩ := h k hk
  injection e with e1
  injection e1 with e2 e3
  subst e2 e3
  exact ⟨h1, h2, h3⟩
theorem IsIn.at0 {w : World} {b o len : Nat} {xs : Nat → Int} (h : IsIn w (some ⟨b, o, none⟩) len xs) {k : Nat} (hk : k < len) : xs k ≤ 9223372036854775807 ∧ b < w.heap.size ∧ w.cell? ⟨b, o + k, none⟩ = some (.int .i64 (xs k)) := by
  obtain ⟨h1, b', o', e, h2, h3⟩ := h k hk
  injection e with e1
  injection e1 with e2 e3
  subst e2 e3
  exact ⟨h1.2, h2, h3⟩
theorem inR_nat {e : Int} {N : Nat} (h : inR e (N : Nat) = true) : ∃ E : Nat, e = (E : Int) ∧ E < N := by
  obtain ⟨h1, h2⟩ := inR_iff.1 h
  obtain ⟨E, rfl⟩ := Int.eq_ofNat_of_zero_le h1
  exact ⟨E, rfl, by omega⟩
theorem IsFl.some0 {w : World} {a0 : Option Addr} {len : Nat} {xs : Nat → Nat} (h : IsFl w a0 len xs) (h0 : 0 < len) : ∃ b o, a0 = some ⟨b, o, none⟩ := by
  obtain ⟨_, b, o, e, _⟩ := h 0 h0
  exact ⟨b, o, e⟩
theorem IsIn.some0 {w : World} {a0 : Option Addr} {len : Nat} {xs : Nat → Int} (h : IsIn w a0 len xs) (h0 : 0 < len) : ∃ b o, a0 = some ⟨b, o, none⟩ := by
  obtain ⟨_, b, o, e, _⟩ := h 0 h0
  exact ⟨b, o, e⟩
end Go.Proofs.YtpfoohpncbkkfaaDoor

namespace Go.Proofs.YtpfoohpncbkkfaaDoor
open Go.RowKit Go.Deep
theorem rowIs.fl {w : World} {b n : Nat} {f : Nat → Nat} (h : w.rowIs b 22 n (fun i => .float .f64 (f i))) (hf : ∀ i, i < n → f i < 18446744073709551616) : IsFl w (some ⟨b, 0, none⟩) n f := fun k hk => ⟨hf k hk, b, 0, rfl, h.lt, by rw [Nat.zero_add]; exact h.cell hk⟩
theorem rowIs.in {w : World} {b n : Nat} {f : Nat → Int} (h : w.rowIs b 2 n (fun i => .int .i64 (f i))) (hf : ∀ i, i < n → -9223372036854775808 ≤ f i ∧ f i ≤ 9223372036854775807) : IsIn w (some ⟨b, 0, none⟩) n f := fun k hk => ⟨hf k hk, b, 0, rfl, h.lt, by rw [Nat.zero_add]; exact h.cell hk⟩
end Go.Proofs.YtpfoohpncbkkfaaDoor

namespace Go.Proofs.YtpfoohpncbkkfaaDoor
open Tf Ieee
namespace Fc
theorem dvB_nan' {y l : Nat} (hl : isN l = true) : dvB y l = quiet := by
  refine dvB_none ?_
  rw [isN_true] at hl
  have ei := d_inf
  show ((double.read y).quotient 54 (double.read l)).map double.write = none
  rw [read_nan double l d_he (by rw [rg_d]; omega)]
  cases double.read y <;> rfl
theorem zero_cases {x : Nat} (hx : x < 18446744073709551616) (h : mg x = 0) : x = 0 ∨ x = 9223372036854775808 := by
  unfold mg at h
  omega
theorem dv0 {b : Nat} (hb : b < 18446744073709551616) : dvB 0 b = 0 ∨ dvB 0 b = quiet := by
  by_cases n : isN b = true
  · exact .inr (dvB_nan' n)
  · have n2 : ¬ 9218868437227405312 < mg b := by rw [isN_true] at n; exact n
    by_cases z : mg b = 0
    · rcases zero_cases hb z with rfl | rfl
      · exact .inr (by decide +kernel)
      · exact .inr (by decide +kernel)
    · by_cases i : mg b = 9218868437227405312
      · have : b = 9218868437227405312 ∨ b = 18442240474082181120 := by unfold mg at i; omega
        rcases this with rfl | rfl
        · exact .inl (by decide +kernel)
        · exact .inl (by decide +kernel)
      · exact .inl (dvB_z b z (by omega) 0 (by decide))
/-- a quotient hangs on the numerator's canonical form -/
theorem dvB_cl {a b : Nat} (ha : a < 18446744073709551616) (hb : b < 18446744073709551616) : dvB (canonB a) b = dvB a b := by
  rcases canon_cases ha with ⟨h, e⟩ | ⟨h, e⟩ | ⟨h, k, e⟩
  · rw [e, dvB_nan (y := quiet) (by decide), dvB_nan h]
  · rw [e]
    rcases zero_cases ha h with rfl | rfl
    · rfl
    · have k := dvB_cn (a := 0) (b := b) (by omega)
      rw [show negB 0 = 9223372036854775808 by decide] at k
      rw [k]
      rcases dv0 hb with q | q <;> rw [q] <;> decide
  · rw [e]
/-- what the levels pull -/
def puB (G dt ll lr gap : Nat) : Nat := dvB (mlB (mlB G dt) (sbB lr ll)) gap
/-- the speed, pulled -/
def u1B (G dt u ll lr gap : Nat) : Nat := sbB u (puB G dt ll lr gap)
/-- the depth over the edge -/
def hB (dl dr : Nat) : Nat := mlB 4602678819172646912 (addB dl dr)
/-- what the bed drags -/
def drB (D dt u1 h : Nat) : Nat := addB 4607182418800017408 (dvB (mlB (mlB D dt) (mg u1)) h)
/-- within what is fastest -/
def cuB (x : Nat) : Nat := if fgt x 4652218415073722368 = true then 4652218415073722368 else if flt x 13875590451928498176 = true then 13875590451928498176 else if isN x = true then 0 else canonB x
/-- the speed behind a step, of an open edge -/
def spB (G dt D u ll lr dl dr gap : Nat) : Nat := if fgt (hB dl dr) 0 = true then cuB (dvB (u1B G dt u ll lr gap) (drB D dt (u1B G dt u ll lr gap) (hB dl dr))) else 0
/-- whether water can go -/
def opB (wl wr : Int) (ll lr bl br : Nat) : Bool := !((!decide (0 < wl) && !decide (0 < wr)) || (!decide (0 < wl) && (flt lr bl || feq lr bl)) || (!decide (0 < wr) && (flt ll br || feq ll br)))
section
variable {G dt D u ll lr dl dr gap : Nat}
theorem puB_lt (G dt ll lr gap : Nat) : puB G dt ll lr gap < 18446744073709551616 := dvB_lt _ _
theorem hB_lt (h1 : dl < 18446744073709551616) (h2 : dr < 18446744073709551616) : hB dl dr < 18446744073709551616 := mlB_lt (by omega) (addB_lt _ _ h1 h2)
theorem mg_lt64 (x : Nat) : mg x < 18446744073709551616 := by unfold mg; omega
theorem rk_1024 : rk 4652218415073722368 = 4652218415073722368 ∧ rk 13875590451928498176 = -4652218415073722368 ∧ isN 4652218415073722368 = false ∧ isN 13875590451928498176 = false := by decide
/-- what cut answers, by order -/
theorem cuB_cases {x : Nat} (hx : x < 18446744073709551616) : (isN x = true ∧ cuB x = 0) ∨ (isN x = false ∧ 4652218415073722368 < rk x ∧ cuB x = 4652218415073722368) ∨ (isN x = false ∧ rk x < -4652218415073722368 ∧ cuB x = 13875590451928498176) ∨ (isN x = false ∧ -4652218415073722368 ≤ rk x ∧ rk x ≤ 4652218415073722368 ∧ cuB x = canonB x) := by
  have g := fgt_rk x 4652218415073722368 hx (by omega)
  have l := flt_rk x 13875590451928498176 hx (by omega)
  rw [rk_1024.1, rk_1024.2.2.1] at g
  rw [rk_1024.2.1, rk_1024.2.2.2] at l
  unfold cuB
  cases n : isN x with
  | true =>
    rw [n] at g l
    simp at g l
    left
    rw [g, l]
    simp
  | false =>
    rw [n] at g l
    simp at g l
    right
    by_cases c1 : 4652218415073722368 < rk x
    · left
      have : fgt x 4652218415073722368 = true := by rw [g]; exact decide_eq_true c1
      rw [this]
      exact ⟨rfl, c1, by simp⟩
    · have e1 : fgt x 4652218415073722368 = false := by rw [g]; exact decide_eq_false c1
      right
      by_cases c2 : rk x < -4652218415073722368
      · left
        have e2 : flt x 13875590451928498176 = true := by rw [l]; exact decide_eq_true c2
        rw [e1, e2]
        exact ⟨rfl, c2, by simp⟩
      · right
        have e2 : flt x 13875590451928498176 = false := by rw [l]; exact decide_eq_false c2
        rw [e1, e2]
        exact ⟨rfl, by omega, by omega, by simp⟩
end
end Fc
end Go.Proofs.YtpfoohpncbkkfaaDoor

namespace Go.Proofs.YtpfoohpncbkkfaaDoor
open Tf Ieee
theorem infW_form (s : Bool) : infW s = if s = true then 9223372036854775808 + 9218868437227405312 else 9218868437227405312 := by cases s <;> rfl
/-- a product's magnitude hangs on the magnitudes alone, its sign on the signs -/
theorem mul_form (a b : Nat) (_ha : a < 18446744073709551616) (hb : b < 18446744073709551616) :
    (∀ s, s < 18446744073709551616 → mg s = mg a → double.mul s b = none) ∨
    ∃ m, m ≤ 9218868437227405312 ∧ ∀ s, s < 18446744073709551616 → mg s = mg a → double.mul s b = some (if (ng s ^^ ng b) = true then 9223372036854775808 + m else m) := by
  rcases three b with kb | kb | kb
  · rcases three a with ka | ka | ka
    · refine .inr ⟨min (rung 52 1074 (mv (mg a) * mv (mg b))) 9218868437227405312, Nat.min_le_right _ _, fun s hs e => ?_⟩
      rw [mul_d s b hs hb (by omega) kb, e]
    · by_cases z : mg b = 0
      · refine .inl fun s hs e => ?_
        rw [mul_if s b hs hb (by omega) kb, if_pos z]
      · refine .inr ⟨9218868437227405312, Nat.le_refl _, fun s hs e => ?_⟩
        rw [mul_if s b hs hb (by omega) kb, if_neg z, infW_form]
    · refine .inl fun s hs e => mul_nan s b (.inl ?_)
      rw [isN_true] at ka ⊢
      omega
  · rcases three a with ka | ka | ka
    · by_cases z : mg a = 0
      · refine .inl fun s hs e => ?_
        rw [mul_fi s b hs hb (by omega) kb, if_pos (by omega)]
      · refine .inr ⟨9218868437227405312, Nat.le_refl _, fun s hs e => ?_⟩
        rw [mul_fi s b hs hb (by omega) kb, if_neg (by omega), infW_form]
    · refine .inr ⟨9218868437227405312, Nat.le_refl _, fun s hs e => ?_⟩
      rw [mul_ii s b hs hb (by omega) kb, infW_form]
    · refine .inl fun s hs e => mul_nan s b (.inl ?_)
      rw [isN_true] at ka ⊢
      omega
  · exact .inl fun s _ _ => mul_nan s b (.inr kb)
theorem form_ng (s : Bool) {m : Nat} (h : m ≤ 9218868437227405312) : ng (if s = true then 9223372036854775808 + m else m) = s ∧ mg (if s = true then 9223372036854775808 + m else m) = m ∧ (if s = true then 9223372036854775808 + m else m) < 18446744073709551616 ∧ isN (if s = true then 9223372036854775808 + m else m) = false := by
  cases s
  · simp only [Bool.false_eq_true, if_false]
    have e : mg m = m := mg_of_lt (by omega)
    exact ⟨ng_of_lt (by omega), e, by omega, isN_false.2 (by omega)⟩
  · simp only [if_true]
    have e : mg (9223372036854775808 + m) = m := by unfold mg; omega
    exact ⟨ng_of_ge (by omega), e, by omega, isN_false.2 (by omega)⟩
/-- opposites: both NaN, or the one the other's opposite -/
def Opp (x y : Nat) : Prop := (isN x = true ∧ isN y = true) ∨ (isN x = false ∧ y = negB x)
theorem negB_form (s : Bool) {m : Nat} (h : m ≤ 9218868437227405312) : negB (if s = true then 9223372036854775808 + m else m) = if (!s) = true then 9223372036854775808 + m else m := by
  unfold negB
  rw [(form_ng s h).1]
  cases s
  · simp only [Bool.false_eq_true, if_false, Bool.not_false, if_true]; omega
  · simp only [if_true, Bool.not_true, Bool.false_eq_true, if_false]; omega
theorem Opp.mul {x y b : Nat} (hx : x < 18446744073709551616) (hb : b < 18446744073709551616) (hy : y < 18446744073709551616) (h : Opp x y) : Opp (mlB x b) (mlB y b) := by
  rcases h with ⟨n1, n2⟩ | ⟨n1, rfl⟩
  · refine .inl ⟨?_, ?_⟩
    · rw [mlB_none (mul_nan x b (.inl n1))]; decide
    · rw [mlB_none (mul_nan y b (.inl n2))]; decide
  · rcases mul_form x b hx hb with h | ⟨m, hm, h⟩
    · refine .inl ⟨?_, ?_⟩
      · rw [mlB_none (h x hx rfl)]; decide
      · rw [mlB_none (h _ hy (negB_mg hx))]; decide
    · refine .inr ⟨?_, ?_⟩
      · rw [mlB_some (h x hx rfl)]; exact (form_ng _ hm).2.2.2
      · rw [mlB_some (h x hx rfl), mlB_some (h _ hy (negB_mg hx)), negB_form _ hm, negB_ng hx]
        cases ng x <;> cases ng b <;> rfl
/-- not below nothing, or a NaN -/
def Nnn (x : Nat) : Prop := isN x = true ∨ ng x = false
theorem Nnn.mul {x b : Nat} (hx : x < 18446744073709551616) (hb : b < 18446744073709551616) (h : Nnn x) (k : Nnn b) : Nnn (mlB x b) := by
  rcases h with h | h
  · left; rw [mlB_none (mul_nan x b (.inl h))]; decide
  · rcases k with k | k
    · left; rw [mlB_none (mul_nan x b (.inr k))]; decide
    · rcases mul_form x b hx hb with e | ⟨m, hm, e⟩
      · left; rw [mlB_none (e x hx rfl)]; decide
      · right; rw [mlB_some (e x hx rfl), (form_ng _ hm).1, h, k]; rfl
/-- nothing, or a NaN -/
def Zn (x : Nat) : Prop := isN x = true ∨ mg x = 0
theorem Zn.mul {x b : Nat} (hx : x < 18446744073709551616) (hb : b < 18446744073709551616) (h : Zn x) : Zn (mlB x b) := by
  rcases h with h | h
  · left; rw [mlB_none (mul_nan x b (.inl h))]; decide
  · rcases three b with k | k | k
    · right
      have e : mv (mg x) * mv (mg b) = 0 := by rw [h, mv_zero, Nat.zero_mul]
      have r : rung 52 1074 0 = 0 := by decide +kernel
      rw [mlB_some (mul_d x b hx hb (by omega) k), e, r, Nat.zero_min]
      cases (ng x ^^ ng b) <;> decide
    · left; rw [mlB_none (by rw [mul_fi x b hx hb (by omega) k, if_pos h])]; decide
    · left; rw [mlB_none (mul_nan x b (.inr k))]; decide
section
variable {u d l t : Nat} (hu : u < 18446744073709551616) (hd : d < 18446744073709551616) (hl : l < 18446744073709551616) (ht : t < 18446744073709551616)
end
end Go.Proofs.YtpfoohpncbkkfaaDoor

namespace Go.Proofs.YtpfoohpncbkkfaaDoor
open Go.RowKit Tf Cu Go.Deep
/-- a list of the call's own, of so many floats -/
def OwnG (B : Nat) (v : Value) (l : List Nat) (w : World) : Prop := w.ownsRow B 22 1 v l.length (l.map (Value.float .f64))
theorem OwnG.fl {B : Nat} {v : Value} {l : List Nat} {w : World} (h : OwnG B v l w) (hl : ∀ x ∈ l, x < 18446744073709551616) : ∃ a0 cap, v = .slice a0 l.length cap ∧ IsFl w a0 l.length (fun j => l.getD j 0) := by
  rcases h.2 with ⟨rfl, h0⟩ | ⟨g, cap, cur, rfl, hb, hg, h1, h2, h3, h4⟩
  · exact ⟨none, 0, by rw [h0], fun k hk => by omega⟩
  · refine ⟨some ⟨g, 0, none⟩, cap, rfl, fun k hk => ?_⟩
    have hx : l.getD k 0 = l[k] := by simp [List.getD, hk]
    refine ⟨by dsimp only; rw [hx]; exact hl _ (List.getElem_mem _), g, 0, rfl, lt_of_block hg, ?_⟩
    have e := h.cells (g := g) rfl k (.float .f64 (l.getD k 0)) (by simp [hk])
    rw [add_off12] at e
    exact e
theorem OwnG.to {B : Nat} {v : Value} {l : List Nat} {w w' : World} (h : OwnG B v l w) (hb : Ab w w') : OwnG B v l w' := by
  refine ⟨h.1, ?_⟩
  rcases h.2 with h0 | ⟨g, cap, cur, e, hb', hg, h1, h2, h3, h4⟩
  · exact .inl h0
  · exact .inr ⟨g, cap, cur, e, hb', hb.heap hg, h1, h2, h3, h4⟩
end Go.Proofs.YtpfoohpncbkkfaaDoor

namespace Go.Proofs.YtpfoohpncbkkfaaDoor
open Go.RowKit Tf Cu Go.Deep
namespace Fc
/-- an edge's Left -/
def eL (n i : Nat) : Nat := edT n i / 4
/-- an edge's Right -/
def eR (n i : Nat) : Nat := mt n (edT n i) / 4
/-- an edge's gap -/
def gpE (n i : Nat) : Nat := GpC n (edT n i / 4) (edT n i % 4)
/-- a cell's level -/
def lvC (n : Nat) (B : Nat → Nat) (W : Nat → Int) (c : Nat) : Nat := lvl (B c) (W c) (arC n c)
/-- a cell's depth -/
def dpC (n : Nat) (W : Nat → Int) (c : Nat) : Nat := dpB (W c) (arC n c)
/-- whether an edge is open -/
def opE (n : Nat) (B : Nat → Nat) (W : Nat → Int) (i : Nat) : Bool := opB (W (eL n i)) (W (eR n i)) (lvC n B W (eL n i)) (lvC n B W (eR n i)) (B (eL n i)) (B (eR n i))
/-- an edge's speed behind a step -/
def spE (n G dt D : Nat) (B : Nat → Nat) (W : Nat → Int) (Sp : Nat → Nat) (i : Nat) : Nat := if opE n B W i = true then spB G dt D (Sp i) (lvC n B W (eL n i)) (lvC n B W (eR n i)) (dpC n W (eL n i)) (dpC n W (eR n i)) (gpE n i) else 0
/-- whether a sea fits -/
def fit4 (n lb lw lt ls : Nat) : Prop := lb = 6 * n * n ∧ lw = 6 * n * n ∧ lt = 6 * n * n ∧ ls = 12 * n * n
/-- whether an edge and a sea are there -/
def has4 (n lb lw lt ls : Nat) (e : Int) : Prop := fit4 n lb lw lt ls ∧ inR e (12 * n * n : Nat) = true
/-- what Open is to answer -/
def OpenC : Prop := ∀ (n gb : Nat) (pb : Option Addr) (lb cb : Nat) (B : Nat → Nat) (pw : Option Addr) (lw cw : Nat) (Wt : Nat → Int) (pt : Option Addr) (lt ct : Nat) (ps : Option Addr) (ls cs : Nat) (sky st e : Int) (w : World), (1 ≤ n ∧ n ≤ 32) → GridOf n gb w → IsFl w pb lb B → IsIn w pw lw Wt → (∃ Sp, IsFl w ps ls Sp) → (-9223372036854775808 ≤ e ∧ e ≤ 9223372036854775807) →
    (has4 n lb lw lt ls e → Calls Tryd.prog 15 #[.pointer (some ⟨gb, 0, none⟩), .agg #[.slice pb lb cb, .slice pw lw cw, .slice pt lt ct, .slice ps ls cs, .int .i64 sky, .int .i64 st], .int .i64 e] w fun x w' => x = .returned (.bool (opE n B Wt e.toNat)) ∧ Below w.heap.size w w') ∧
    (¬ has4 n lb lw lt ls e → Calls Tryd.prog 15 #[.pointer (some ⟨gb, 0, none⟩), .agg #[.slice pb lb cb, .slice pw lw cw, .slice pt lt ct, .slice ps ls cs, .int .i64 sky, .int .i64 st], .int .i64 e] w fun x w' => x = .returned (.bool false) ∧ Below w.heap.size w w')
/-- what Speed is to answer -/
def SpeedC : Prop := ∀ (n gb : Nat) (sd : Int) (dt gr dr : Nat) (lim : Int) (rv : Bool) (pr : Option Addr) (lr cr : Nat) (pb : Option Addr) (lb cb : Nat) (B : Nat → Nat) (pw : Option Addr) (lw cw : Nat) (Wt : Nat → Int) (pt : Option Addr) (lt ct : Nat) (ps : Option Addr) (ls cs : Nat) (Sp : Nat → Nat) (sky st e : Int) (w : World), (1 ≤ n ∧ n ≤ 32) → GridOf n gb w → IsFl w pb lb B → IsIn w pw lw Wt → IsFl w ps ls Sp → (dt < 18446744073709551616 ∧ gr < 18446744073709551616 ∧ dr < 18446744073709551616) → (-9223372036854775808 ≤ e ∧ e ≤ 9223372036854775807) →
    (has4 n lb lw lt ls e → Calls Tryd.prog 18 #[.pointer (some ⟨gb, 0, none⟩), .agg #[.int .i64 sd, .float .f64 dt, .float .f64 gr, .float .f64 dr, .int .i64 lim, .bool rv, .slice pr lr cr], .agg #[.slice pb lb cb, .slice pw lw cw, .slice pt lt ct, .slice ps ls cs, .int .i64 sky, .int .i64 st], .int .i64 e] w fun x w' => x = .returned (.float .f64 (spE n gr dt dr B Wt Sp e.toNat)) ∧ Below w.heap.size w w') ∧
    (¬ has4 n lb lw lt ls e → Calls Tryd.prog 18 #[.pointer (some ⟨gb, 0, none⟩), .agg #[.int .i64 sd, .float .f64 dt, .float .f64 gr, .float .f64 dr, .int .i64 lim, .bool rv, .slice pr lr cr], .agg #[.slice pb lb cb, .slice pw lw cw, .slice pt lt ct, .slice ps ls cs, .int .i64 sky, .int .i64 st], .int .i64 e] w fun x w' => x = .returned (.float .f64 0) ∧ Below w.heap.size w w')
/-- what Speeds is to answer -/
def SpeedsC : Prop := ∀ (n gb : Nat) (sd : Int) (dt gr dr : Nat) (lim : Int) (rv : Bool) (pr : Option Addr) (lr cr : Nat) (pb : Option Addr) (lb cb : Nat) (B : Nat → Nat) (pw : Option Addr) (lw cw : Nat) (Wt : Nat → Int) (pt : Option Addr) (lt ct : Nat) (ps : Option Addr) (ls cs : Nat) (Sp : Nat → Nat) (sky st : Int) (w : World), (1 ≤ n ∧ n ≤ 32) → GridOf n gb w → IsFl w pb lb B → IsIn w pw lw Wt → IsFl w ps ls Sp → (dt < 18446744073709551616 ∧ gr < 18446744073709551616 ∧ dr < 18446744073709551616) →
    (fit4 n lb lw lt ls → Calls Tryd.prog 11 #[.pointer (some ⟨gb, 0, none⟩), .agg #[.int .i64 sd, .float .f64 dt, .float .f64 gr, .float .f64 dr, .int .i64 lim, .bool rv, .slice pr lr cr], .agg #[.slice pb lb cb, .slice pw lw cw, .slice pt lt ct, .slice ps ls cs, .int .i64 sky, .int .i64 st]] w fun e w' => ∃ v, e = .returned (.tuple #[v, .int .i64 0]) ∧ Below w.heap.size w w' ∧ OwnG w.heap.size v ((List.range (12 * n * n)).map (spE n gr dt dr B Wt Sp)) w') ∧
    (¬ fit4 n lb lw lt ls → Calls Tryd.prog 11 #[.pointer (some ⟨gb, 0, none⟩), .agg #[.int .i64 sd, .float .f64 dt, .float .f64 gr, .float .f64 dr, .int .i64 lim, .bool rv, .slice pr lr cr], .agg #[.slice pb lb cb, .slice pw lw cw, .slice pt lt ct, .slice ps ls cs, .int .i64 sky, .int .i64 st]] w fun e w' => e = .returned (.tuple #[.slice none 0 0, .int .i64 1]) ∧ Below w.heap.size w w')
/-- a list of the call's own, as a row -/
theorem ownG_row {B : Nat} {v : Value} {l : List Nat} {w : World} (h : OwnG B v l w) (h0 : 0 < l.length) : ∃ g cap F, v = .slice (some ⟨g, 0, none⟩) l.length cap ∧ B ≤ g ∧ l.length ≤ cap ∧ cap ≤ maxLen ∧ w.rowIs g 22 cap F ∧ ∀ i, i < l.length → F i = .float .f64 (l.getD i 0) := by
  rcases h.2 with ⟨rfl, hz⟩ | ⟨g, cap, cur, e, hb, hg, h1, h2, h3, h4⟩
  · omega
  · refine ⟨g, cap, fun i => (cur[i]?).getD (.bool false), e, hb, h1, h2, ⟨cur, hg, by omega, fun i hi => ?_⟩, fun i hi => ?_⟩
    · have : i < cur.size := by omega
      simp [this]
    · have q : (cur.toList.take l.length)[i]? = (l.map (Value.float .f64))[i]? := by
        have h4' : cur.toList.take l.length = l.map (Value.float .f64) := by simpa using h4
        rw [h4']
      rw [List.getElem?_take, if_pos hi, Array.getElem?_toList] at q
      dsimp only
      rw [q]
      simp [hi, List.getD]
theorem ownG_two {B n : Nat} {v : Value} {x : Nat → Nat} {w : World} (h : OwnG B v ((List.range n).map x) w) (h0 : 0 < n) : ∃ g cap F, v = .slice (some ⟨g, 0, none⟩) n cap ∧ B ≤ g ∧ n ≤ cap ∧ cap ≤ maxLen ∧ w.rowIs g 22 cap F ∧ ∀ i, i < n → F i = .float .f64 (x i) := by
  have e : ((List.range n).map x).length = n := by simp
  obtain ⟨g, cap, F, h1, h2, h3, h4, h5, h6⟩ := ownG_row h (by rw [e]; exact h0)
  rw [e] at h1 h3 h6
  exact ⟨g, cap, F, h1, h2, h3, h4, h5, fun i hi => by rw [h6 i hi]; simp [List.getD, hi]⟩
/-- beds and waters of the test of life, changed -/
def lvB (i : Nat) : Nat := if i = 0 then 4613937818241073152 else 0
def lvW (i : Nat) : Int := if i = 0 then 0 else lkW i
theorem lf_0 : flt (spE 1 4607182418800017408 4602678819172646912 0 (fun _ => 0) lkW (fun _ => 0) 0) 0 = true := by decide +kernel
theorem lf_1 : spE 1 4607182418800017408 4602678819172646912 0 (fun _ => 0) lkW (fun _ => 0) 1 = 0 := by decide +kernel
theorem lf_2 : opE 1 lvB lvW 0 = false := by decide +kernel
theorem lf_3 : opE 1 lvB lvW 4 = true := by decide +kernel
end Fc
end Go.Proofs.YtpfoohpncbkkfaaDoor

namespace Go.Proofs.YtpfoohpncbkkfaaDoor
open Go.RowKit Tf Cu
attribute [local go_sem] run_bits run_from raw_feq raw_fne raw_flt raw_fgt run_neg run_store_float
set_option maxRecDepth 100000 in
set_option maxHeartbeats 8000000 in
theorem long16_go (pb pw pt ps : Option Addr) (lb cb lw cw lt ct ls cs : Nat) (sky st : Int) (q : Bool) (w : World)
    (hq : (decide ((65536 : Int) < (lb : Int)) = true ∧ q = true) ∨ (decide ((65536 : Int) < (lb : Int)) = false ∧ decide ((65536 : Int) < (lw : Int)) = true ∧ q = true) ∨ (decide ((65536 : Int) < (lb : Int)) = false ∧ decide ((65536 : Int) < (lw : Int)) = false ∧ decide ((65536 : Int) < (lt : Int)) = true ∧ q = true) ∨ (decide ((65536 : Int) < (lb : Int)) = false ∧ decide ((65536 : Int) < (lw : Int)) = false ∧ decide ((65536 : Int) < (lt : Int)) = false ∧ decide ((65536 : Int) < (ls : Int)) = q)) :
    Calls Tryd.prog 20 #[.agg #[.slice pb lb cb, .slice pw lw cw, .slice pt lt ct, .slice ps ls cs, .int .i64 sky, .int .i64 st]] w fun e w' => e = .returned (.bool q) ∧ Below w.heap.size w w' := by
  have A0 : Hid (Ab w (w.alloc (.cells #[.slice pb lb cb, .slice pw lw cw, .slice pt lt ct, .slice ps ls cs, .int .i64 sky, .int .i64 st] 29))) := bl1 _ _
  have RO : Hid ((w.alloc (.cells #[.slice pb lb cb, .slice pw lw cw, .slice pt lt ct, .slice ps ls cs, .int .i64 sky, .int .i64 st] 29)).heap[w.heap.size]? = some (.cells #[.slice pb lb cb, .slice pw lw cw, .slice pt lt ct, .slice ps ls cs, .int .i64 sky, .int .i64 st] 29)) := heap_alloc_new _ _
  have s0 := cell_of_row _ _ 0 _ _ _ RO.out
  have s1 := cell_of_row _ _ 1 _ _ _ RO.out
  have s2 := cell_of_row _ _ 2 _ _ _ RO.out
  have s3 := cell_of_row _ _ 3 _ _ _ RO.out
  rcases hq with ⟨q1, rfl⟩ | ⟨q1, q2, rfl⟩ | ⟨q1, q2, q3, rfl⟩ | ⟨q1, q2, q3, q4⟩
  · go_enter Tryd.func20, Tryd.ntmps20
    go_wp2
    go_ret
    exact ⟨rfl, A0.out⟩
  · go_enter Tryd.func20, Tryd.ntmps20
    go_wp2
    go_ret
    exact ⟨rfl, A0.out⟩
  · go_enter Tryd.func20, Tryd.ntmps20
    go_wp2
    go_ret
    exact ⟨rfl, A0.out⟩
  · cases q with
    | true =>
      go_enter Tryd.func20, Tryd.ntmps20
      go_wp2
      go_ret
      exact ⟨rfl, A0.out⟩
    | false =>
      go_enter Tryd.func20, Tryd.ntmps20
      go_wp2
      go_ret
      exact ⟨rfl, A0.out⟩
theorem long16_at (pb pw pt ps : Option Addr) (lb cb lw cw lt ct ls cs : Nat) (sky st : Int) (w : World) : Calls Tryd.prog 20 #[.agg #[.slice pb lb cb, .slice pw lw cw, .slice pt lt ct, .slice ps ls cs, .int .i64 sky, .int .i64 st]] w fun e w' => e = .returned (.bool (decide (65536 < lb ∨ 65536 < lw ∨ 65536 < lt ∨ 65536 < ls))) ∧ Below w.heap.size w w' := by
  refine long16_go pb pw pt ps lb cb lw cw lt ct ls cs sky st _ w ?_
  by_cases c1 : 65536 < lb
  · exact .inl ⟨decide_eq_true (by omega), decide_eq_true (.inl c1)⟩
  · by_cases c2 : 65536 < lw
    · exact .inr (.inl ⟨decide_eq_false (by omega), decide_eq_true (by omega), decide_eq_true (.inr (.inl c2))⟩)
    · by_cases c3 : 65536 < lt
      · exact .inr (.inr (.inl ⟨decide_eq_false (by omega), decide_eq_false (by omega), decide_eq_true (by omega), decide_eq_true (.inr (.inr (.inl c3)))⟩))
      · refine .inr (.inr (.inr ⟨decide_eq_false (by omega), decide_eq_false (by omega), decide_eq_false (by omega), ?_⟩))
        by_cases c4 : 65536 < ls
        · rw [decide_eq_true (show (65536 : Int) < ls by omega), decide_eq_true (.inr (.inr (.inr c4)))]
        · rw [decide_eq_false (show ¬ (65536 : Int) < ls by omega), decide_eq_false (by omega)]
end Go.Proofs.YtpfoohpncbkkfaaDoor

namespace Go.Proofs.YtpfoohpncbkkfaaDoor
open Go.RowKit Tf Cu Go.Deep
attribute [local go_sem] run_bits run_from raw_feq raw_fne raw_flt raw_fgt run_neg run_store_float
namespace Fc
set_option maxRecDepth 100000 in
set_option maxHeartbeats 4000000 in
theorem fits16_go (gb : Nat) (pb pw pt ps : Option Addr) (lb cb lw cw lt ct ls cs : Nat) (sky st : Int) (M N : Nat) (q : Bool) (w : World)
    (hq : (((lb : Int) == (M : Int)) = false ∧ q = false) ∨ (((lb : Int) == (M : Int)) = true ∧ ((lw : Int) == (M : Int)) = false ∧ q = false) ∨ (((lb : Int) == (M : Int)) = true ∧ ((lw : Int) == (M : Int)) = true ∧ ((lt : Int) == (M : Int)) = false ∧ q = false) ∨ (((lb : Int) == (M : Int)) = true ∧ ((lw : Int) == (M : Int)) = true ∧ ((lt : Int) == (M : Int)) = true ∧ ((ls : Int) == (N : Int)) = q))
    (CC : Hid (∀ v, Ab w v → Calls Tryd.prog 36 #[(.pointer (some ⟨gb, 0, none⟩))] v fun e w' => e = .returned (.int .i64 (M : Nat)) ∧ Below v.heap.size v w'))
    (CE : Hid (∀ v, Ab w v → Calls Tryd.prog 28 #[(.pointer (some ⟨gb, 0, none⟩))] v fun e w' => e = .returned (.int .i64 (N : Nat)) ∧ Below v.heap.size v w')) :
    Calls Tryd.prog 26 #[(.pointer (some ⟨gb, 0, none⟩)), .agg #[.slice pb lb cb, .slice pw lw cw, .slice pt lt ct, .slice ps ls cs, .int .i64 sky, .int .i64 st]] w fun e w' => e = .returned (.bool q) ∧ Below w.heap.size w w' := by
  have A0 : Hid (Ab w (w.alloc (.cells #[.slice pb lb cb, .slice pw lw cw, .slice pt lt ct, .slice ps ls cs, .int .i64 sky, .int .i64 st] 29))) := bl1 _ _
  have R0 : Hid ((w.alloc (.cells #[.slice pb lb cb, .slice pw lw cw, .slice pt lt ct, .slice ps ls cs, .int .i64 sky, .int .i64 st] 29)).heap[w.heap.size]? = some (.cells #[.slice pb lb cb, .slice pw lw cw, .slice pt lt ct, .slice ps ls cs, .int .i64 sky, .int .i64 st] 29)) := heap_alloc_new _ _
  go_enter Tryd.func26, Tryd.ntmps26
  go_upto_region 1 with fail
  obtain ⟨gs, hgs⟩ : ∃ g, w.heap.size = g := ⟨_, rfl⟩
  generalize hW : World.alloc w _ = W at *
  have AW : Hid (Ab w W) := A0.out
  have RO := R0
  rw [hgs] at RO ⊢
  clear hgs hW A0 R0
  rcases hq with ⟨q1, rfl⟩ | ⟨q1, q2, rfl⟩ | ⟨q1, q2, q3, rfl⟩ | ⟨q1, q2, q3, q4⟩
  · skip
    obtain ⟨UU, E, hF1, hF2⟩ := cls W
    have HU := hid hF2
    have HU1 := hid hF1
    have HX : Hid (∀ u, Ab w (E u)) := fun u => Ab.trans AW.out (hF1 u)
    have s0 : ∀ u, (E u).cell? ⟨gs, 0, none⟩ = some (.slice pb lb cb) := fun u => cell_of_row _ _ 0 _ _ _ ((hF1 u).heap RO.out)
    have s1 : ∀ u, (E u).cell? ⟨gs, 1, none⟩ = some (.slice pw lw cw) := fun u => cell_of_row _ _ 1 _ _ _ ((hF1 u).heap RO.out)
    have s2 : ∀ u, (E u).cell? ⟨gs, 2, none⟩ = some (.slice pt lt ct) := fun u => cell_of_row _ _ 2 _ _ _ ((hF1 u).heap RO.out)
    have s3 : ∀ u, (E u).cell? ⟨gs, 3, none⟩ = some (.slice ps ls cs) := fun u => cell_of_row _ _ 3 _ _ _ ((hF1 u).heap RO.out)
    have DD0 := HU.out _ (Ab.refl W).drew
    clear hF1 hF2
    refine region_cls E (by kernel_rfl) (by kernel_rfl) DD0 ?_
    repeat (go_big_quiet_step (first
      | (with_reducible rfl)
      | (go_at_call 36; exact calls_cls HU HU1 (CC.out _ (HX.out _)))
      | (go_at_call 28; exact calls_cls HU HU1 (CE.out _ (HX.out _)))))
    refine wpQuiet_nil ?_
    intro z hwz
    obtain ⟨u0, hu⟩ := hwz
    have AZ : Hid (Ab w z) := by rw [hu]; exact HX.out u0
    clear hu u0
    clear HU HU1 HX DD0 s0 s1 s2 s3
    clear E UU
    go_wp2
    go_ret
    exact ⟨rfl, AZ.out⟩
  · skip
    obtain ⟨UU, E, hF1, hF2⟩ := cls W
    have HU := hid hF2
    have HU1 := hid hF1
    have HX : Hid (∀ u, Ab w (E u)) := fun u => Ab.trans AW.out (hF1 u)
    have s0 : ∀ u, (E u).cell? ⟨gs, 0, none⟩ = some (.slice pb lb cb) := fun u => cell_of_row _ _ 0 _ _ _ ((hF1 u).heap RO.out)
    have s1 : ∀ u, (E u).cell? ⟨gs, 1, none⟩ = some (.slice pw lw cw) := fun u => cell_of_row _ _ 1 _ _ _ ((hF1 u).heap RO.out)
    have s2 : ∀ u, (E u).cell? ⟨gs, 2, none⟩ = some (.slice pt lt ct) := fun u => cell_of_row _ _ 2 _ _ _ ((hF1 u).heap RO.out)
    have s3 : ∀ u, (E u).cell? ⟨gs, 3, none⟩ = some (.slice ps ls cs) := fun u => cell_of_row _ _ 3 _ _ _ ((hF1 u).heap RO.out)
    have DD0 := HU.out _ (Ab.refl W).drew
    clear hF1 hF2
    refine region_cls E (by kernel_rfl) (by kernel_rfl) DD0 ?_
    repeat (go_big_quiet_step (first
      | (with_reducible rfl)
      | (go_at_call 36; exact calls_cls HU HU1 (CC.out _ (HX.out _)))
      | (go_at_call 28; exact calls_cls HU HU1 (CE.out _ (HX.out _)))))
    refine wpQuiet_nil ?_
    intro z hwz
    obtain ⟨u0, hu⟩ := hwz
    have AZ : Hid (Ab w z) := by rw [hu]; exact HX.out u0
    clear hu u0
    clear HU HU1 HX DD0 s0 s1 s2 s3
    clear E UU
    go_wp2
    go_ret
    exact ⟨rfl, AZ.out⟩
  · skip
    obtain ⟨UU, E, hF1, hF2⟩ := cls W
    have HU := hid hF2
    have HU1 := hid hF1
    have HX : Hid (∀ u, Ab w (E u)) := fun u => Ab.trans AW.out (hF1 u)
    have s0 : ∀ u, (E u).cell? ⟨gs, 0, none⟩ = some (.slice pb lb cb) := fun u => cell_of_row _ _ 0 _ _ _ ((hF1 u).heap RO.out)
    have s1 : ∀ u, (E u).cell? ⟨gs, 1, none⟩ = some (.slice pw lw cw) := fun u => cell_of_row _ _ 1 _ _ _ ((hF1 u).heap RO.out)
    have s2 : ∀ u, (E u).cell? ⟨gs, 2, none⟩ = some (.slice pt lt ct) := fun u => cell_of_row _ _ 2 _ _ _ ((hF1 u).heap RO.out)
    have s3 : ∀ u, (E u).cell? ⟨gs, 3, none⟩ = some (.slice ps ls cs) := fun u => cell_of_row _ _ 3 _ _ _ ((hF1 u).heap RO.out)
    have DD0 := HU.out _ (Ab.refl W).drew
    clear hF1 hF2
    refine region_cls E (by kernel_rfl) (by kernel_rfl) DD0 ?_
    repeat (go_big_quiet_step (first
      | (with_reducible rfl)
      | (go_at_call 36; exact calls_cls HU HU1 (CC.out _ (HX.out _)))
      | (go_at_call 28; exact calls_cls HU HU1 (CE.out _ (HX.out _)))))
    refine wpQuiet_nil ?_
    intro z hwz
    obtain ⟨u0, hu⟩ := hwz
    have AZ : Hid (Ab w z) := by rw [hu]; exact HX.out u0
    clear hu u0
    clear HU HU1 HX DD0 s0 s1 s2 s3
    clear E UU
    go_wp2
    go_ret
    exact ⟨rfl, AZ.out⟩
  · skip
    obtain ⟨UU, E, hF1, hF2⟩ := cls W
    have HU := hid hF2
    have HU1 := hid hF1
    have HX : Hid (∀ u, Ab w (E u)) := fun u => Ab.trans AW.out (hF1 u)
    have s0 : ∀ u, (E u).cell? ⟨gs, 0, none⟩ = some (.slice pb lb cb) := fun u => cell_of_row _ _ 0 _ _ _ ((hF1 u).heap RO.out)
    have s1 : ∀ u, (E u).cell? ⟨gs, 1, none⟩ = some (.slice pw lw cw) := fun u => cell_of_row _ _ 1 _ _ _ ((hF1 u).heap RO.out)
    have s2 : ∀ u, (E u).cell? ⟨gs, 2, none⟩ = some (.slice pt lt ct) := fun u => cell_of_row _ _ 2 _ _ _ ((hF1 u).heap RO.out)
    have s3 : ∀ u, (E u).cell? ⟨gs, 3, none⟩ = some (.slice ps ls cs) := fun u => cell_of_row _ _ 3 _ _ _ ((hF1 u).heap RO.out)
    have DD0 := HU.out _ (Ab.refl W).drew
    clear hF1 hF2
    refine region_cls E (by kernel_rfl) (by kernel_rfl) DD0 ?_
    repeat (go_big_quiet_step (first
      | (with_reducible rfl)
      | (go_at_call 36; exact calls_cls HU HU1 (CC.out _ (HX.out _)))
      | (go_at_call 28; exact calls_cls HU HU1 (CE.out _ (HX.out _)))))
    refine wpQuiet_nil ?_
    intro z hwz
    obtain ⟨u0, hu⟩ := hwz
    have AZ : Hid (Ab w z) := by rw [hu]; exact HX.out u0
    clear hu u0
    clear HU HU1 HX DD0 s0 s1 s2 s3
    clear E UU
    go_wp2
    go_ret
    exact ⟨rfl, AZ.out⟩
/-- DOES A #[.slice pb lb cb, .slice pw lw cw, .slice pt lt ct, .slice ps ls cs, .int .i64 sky, .int .i64 st] FIT -/
theorem fits16_at {n gb : Nat} (pb pw pt ps : Option Addr) (lb cb lw cw lt ct ls cs : Nat) (sky st : Int) (q : Bool) (w : World) (g : GridOf n gb w) (hq : q = true ↔ fit4 n lb lw lt ls) :
    Calls Tryd.prog 26 #[(.pointer (some ⟨gb, 0, none⟩)), .agg #[.slice pb lb cb, .slice pw lw cw, .slice pt lt ct, .slice ps ls cs, .int .i64 sky, .int .i64 st]] w fun e w' => e = .returned (.bool q) ∧ Below w.heap.size w w' := by
  refine fits16_go gb pb pw pt ps lb cb lw cw lt ct ls cs sky st (6 * n * n) (12 * n * n) q w ?_ (fun v hv => (gCells_at (g.to hv)).mono fun _ _ h => ⟨h.1, by obtain ⟨_, rfl⟩ := h; exact Below.refl _ _⟩) (fun v hv => (gEdges_at (g.to hv)).mono fun _ _ h => ⟨h.1, by obtain ⟨_, rfl⟩ := h; exact Below.refl _ _⟩)
  unfold fit4 at hq
  generalize 6 * n * n = M at *
  generalize 12 * n * n = N at *
  have e : ∀ a b : Nat, (((a : Int) == (b : Int)) = true ↔ a = b) := fun a b => by simp; omega
  have f : ∀ a b : Nat, (((a : Int) == (b : Int)) = false ↔ a ≠ b) := fun a b => by simp; omega
  rw [e, f, e, f, e, f]
  by_cases h1 : lb = M
  · by_cases h2 : lw = M
    · by_cases h3 : lt = M
      · refine .inr (.inr (.inr ⟨h1, h2, h3, ?_⟩))
        by_cases h4 : ls = N
        · rw [hq.2 ⟨h1, h2, h3, h4⟩]; exact (e _ _).2 h4
        · have : q = false := by cases q; · rfl
                                 · exact absurd (hq.1 rfl).2.2.2 h4
          rw [this]; exact (f _ _).2 h4
      · exact .inr (.inr (.inl ⟨h1, h2, h3, by cases q; · rfl
                                               · exact absurd (hq.1 rfl).2.2.1 h3⟩))
    · exact .inr (.inl ⟨h1, h2, by cases q; · rfl
                                   · exact absurd (hq.1 rfl).2.1 h2⟩)
  · exact .inl ⟨h1, by cases q; · rfl
                       · exact absurd (hq.1 rfl).1 h1⟩
set_option maxRecDepth 100000 in
set_option maxHeartbeats 4000000 in
theorem net16_no (side : Int) (pb pw pt ps : Option Addr) (lb cb lw cw lt ct ls cs : Nat) (sky st : Int) (w : World) (h : ¬ (1 ≤ side ∧ side ≤ 32)) :
    Calls Tryd.prog 10 #[.int .i64 side, .agg #[.slice pb lb cb, .slice pw lw cw, .slice pt lt ct, .slice ps ls cs, .int .i64 sky, .int .i64 st]] w fun e w' => e = .returned (.pointer none) ∧ Below w.heap.size w w' := by
  have A0 : Hid (Ab w (w.alloc (.cells #[.slice pb lb cb, .slice pw lw cw, .slice pt lt ct, .slice ps ls cs, .int .i64 sky, .int .i64 st] 29))) := bl1 _ _
  have NO := hid (fun v => new_no side v h)
  clear h
  go_enter Tryd.func10, Tryd.ntmps10
  go_wp2_with fail
  refine Calls.mono (NO.out _) ?_
  rintro e v1 ⟨rfl, hv⟩
  have hv2 := hv.symm
  subst hv2
  go_wp2
  go_ret
  exact ⟨rfl, A0.out⟩
set_option maxRecDepth 100000 in
set_option maxHeartbeats 4000000 in
theorem net16_go (n : Nat) (pb pw pt ps : Option Addr) (lb cb lw cw lt ct ls cs : Nat) (sky st : Int) (lg q : Bool) (w : World) (hn : 1 ≤ n ∧ n ≤ 32) (hF : Fr w)
    (LG : Hid (∀ v, Calls Tryd.prog 20 #[.agg #[.slice pb lb cb, .slice pw lw cw, .slice pt lt ct, .slice ps ls cs, .int .i64 sky, .int .i64 st]] v fun e w' => e = .returned (.bool lg) ∧ Below v.heap.size v w'))
    (FT : Hid (∀ gb v, GridOf n gb v → Calls Tryd.prog 26 #[(.pointer (some ⟨gb, 0, none⟩)), .agg #[.slice pb lb cb, .slice pw lw cw, .slice pt lt ct, .slice ps ls cs, .int .i64 sky, .int .i64 st]] v fun e w' => e = .returned (.bool q) ∧ Below v.heap.size v w')) :
    Calls Tryd.prog 10 #[.int .i64 (n : Nat), .agg #[.slice pb lb cb, .slice pw lw cw, .slice pt lt ct, .slice ps ls cs, .int .i64 sky, .int .i64 st]] w fun e w' => Below w.heap.size w w' ∧ ((lg = false ∧ q = true ∧ ∃ gb, e = .returned (.pointer (some ⟨gb, 0, none⟩)) ∧ GridOf n gb w') ∨ (¬ (lg = false ∧ q = true) ∧ e = .returned (.pointer none))) := by
  have A0 : Hid (Ab w (w.alloc (.cells #[.slice pb lb cb, .slice pw lw cw, .slice pt lt ct, .slice ps ls cs, .int .i64 sky, .int .i64 st] 29))) := bl1 _ _
  have R0 : Hid ((w.alloc (.cells #[.slice pb lb cb, .slice pw lw cw, .slice pt lt ct, .slice ps ls cs, .int .i64 sky, .int .i64 st] 29)).heap[w.heap.size]? = some (.cells #[.slice pb lb cb, .slice pw lw cw, .slice pt lt ct, .slice ps ls cs, .int .i64 sky, .int .i64 st] 29)) := heap_alloc_new _ _
  have NW := hid (new_at n _ hn (hF.to A0.out))
  clear hF hn
  go_enter Tryd.func10, Tryd.ntmps10
  go_wp2_with fail
  refine NW.out.mono ?_
  rintro e W ⟨gb, rfl, a1, -, g1⟩
  have AW : Hid (Ab w W) := A0.out.trans a1
  have RO : Hid (W.heap[w.heap.size]? = some (.cells #[.slice pb lb cb, .slice pw lw cw, .slice pt lt ct, .slice ps ls cs, .int .i64 sky, .int .i64 st] 29)) := a1.heap R0.out
  have GG := hid g1
  clear a1 g1 NW A0 R0
  have c0 := cell_of_row _ _ 0 _ _ _ RO.out
  have c1 := cell_of_row _ _ 1 _ _ _ RO.out
  have c2 := cell_of_row _ _ 2 _ _ _ RO.out
  have c3 := cell_of_row _ _ 3 _ _ _ RO.out
  have c4 := cell_of_row _ _ 4 _ _ _ RO.out
  have c5 := cell_of_row _ _ 5 _ _ _ RO.out
  go_wp2_with fail
  refine (LG.out _).mono ?_
  rintro e9 v1 ⟨rfl, k1⟩
  have A1 : Hid (Ab w v1) := AW.out.call k1
  have R1 : Hid (v1.heap[w.heap.size]? = some (.cells #[.slice pb lb cb, .slice pw lw cw, .slice pt lt ct, .slice ps ls cs, .int .i64 sky, .int .i64 st] 29)) := Ab.heap k1 RO.out
  have G1 := hid (GG.out.to k1)
  clear k1 AW RO GG c0 c1 c2 c3 c4 c5 LG
  cases lg
  · have c0 := cell_of_row _ _ 0 _ _ _ R1.out
    have c1 := cell_of_row _ _ 1 _ _ _ R1.out
    have c2 := cell_of_row _ _ 2 _ _ _ R1.out
    have c3 := cell_of_row _ _ 3 _ _ _ R1.out
    have c4 := cell_of_row _ _ 4 _ _ _ R1.out
    have c5 := cell_of_row _ _ 5 _ _ _ R1.out
    go_wp2_with fail
    refine (FT.out gb _ G1.out).mono ?_
    rintro e9 v2 ⟨rfl, k1⟩
    have A2 : Hid (Ab w v2) := A1.out.call k1
    have G2 := hid (G1.out.to k1)
    clear k1 A1 G1 R1 c0 c1 c2 c3 c4 c5 FT
    cases q
    · go_wp2
      go_ret
      exact ⟨A2.out, rfl⟩
    · go_wp2
      go_ret
      exact ⟨A2.out, gb, rfl, G2.out⟩
  · go_wp2
    go_ret
    exact ⟨A1.out, .inr ⟨by simp, rfl⟩⟩
/-- THE NET OF A SIDE, where a sea fits it -/
theorem net16_yes (n : Nat) (pb pw pt ps : Option Addr) (lb cb lw cw lt ct ls cs : Nat) (sky st : Int) (w : World) (hF : Fr w) (hn : 1 ≤ n ∧ n ≤ 32) (hf : fit4 n lb lw lt ls) :
    Calls Tryd.prog 10 #[.int .i64 (n : Nat), .agg #[.slice pb lb cb, .slice pw lw cw, .slice pt lt ct, .slice ps ls cs, .int .i64 sky, .int .i64 st]] w fun e w' => Below w.heap.size w w' ∧ ∃ gb, e = .returned (.pointer (some ⟨gb, 0, none⟩)) ∧ GridOf n gb w' := by
  have lg : decide (65536 < lb ∨ 65536 < lw ∨ 65536 < lt ∨ 65536 < ls) = false := by
    obtain ⟨h1, h2, h3, h4⟩ := hf
    have h5 := n12 hn
    exact decide_eq_false (by omega)
  refine (net16_go n pb pw pt ps lb cb lw cw lt ct ls cs sky st _ true w hn hF (fun v => long16_at pb pw pt ps lb cb lw cw lt ct ls cs sky st v) (fun gb v g => fits16_at pb pw pt ps lb cb lw cw lt ct ls cs sky st true v g (by simp [hf]))).mono ?_
  rintro e w' ⟨b, ⟨_, _, gb, rfl, g⟩ | ⟨h, _⟩⟩
  · exact ⟨b, gb, rfl, g⟩
  · exact absurd ⟨lg, rfl⟩ h
/-- AND WHERE NONE DOES -/
theorem net16_nil (side : Int) (pb pw pt ps : Option Addr) (lb cb lw cw lt ct ls cs : Nat) (sky st : Int) (w : World) (hF : Fr w) (h : ¬ ∃ n : Nat, side = (n : Int) ∧ (1 ≤ n ∧ n ≤ 32) ∧ fit4 n lb lw lt ls) :
    Calls Tryd.prog 10 #[.int .i64 side, .agg #[.slice pb lb cb, .slice pw lw cw, .slice pt lt ct, .slice ps ls cs, .int .i64 sky, .int .i64 st]] w fun e w' => e = .returned (.pointer none) ∧ Below w.heap.size w w' := by
  by_cases hs : 1 ≤ side ∧ side ≤ 32
  · obtain ⟨n, rfl⟩ : ∃ n : Nat, side = n := ⟨side.toNat, by omega⟩
    have hn : 1 ≤ n ∧ n ≤ 32 := by omega
    have hf : ¬ fit4 n lb lw lt ls := fun hf => h ⟨n, rfl, hn, hf⟩
    refine (net16_go n pb pw pt ps lb cb lw cw lt ct ls cs sky st _ false w hn hF (fun v => long16_at pb pw pt ps lb cb lw cw lt ct ls cs sky st v) (fun gb v g => fits16_at pb pw pt ps lb cb lw cw lt ct ls cs sky st false v g (by simp [hf]))).mono ?_
    rintro e w' ⟨b, ⟨_, h2, _⟩ | ⟨_, rfl⟩⟩
    · cases h2
    · exact ⟨rfl, b⟩
  · exact net16_no side pb pw pt ps lb cb lw cw lt ct ls cs sky st w hs
/-- an edge of the net -/
theorem edge16 {n gb k : Nat} {v : World} (hn : 1 ≤ n ∧ n ≤ 32) (hk : k < 12 * n * n) (g : GridOf n gb v) : Calls Tryd.prog 14 #[.pointer (some ⟨gb, 0, none⟩), .int .i64 (k : Nat)] v fun e w' => e = .returned (.tuple #[.agg #[.int .i64 (eL n k : Nat), .int .i64 (edT n k % 4 : Nat), .int .i64 (eR n k : Nat), .int .i64 (mt n (edT n k) % 4 : Nat)], .bool true]) ∧ Below v.heap.size v w' := by
  obtain ⟨t1, t2, t3⟩ := edT_spec hn.1 hk
  have e := gEdge_ok hn t1 t2 g
  rw [t3, ← (mt_dec hn.1 t1).1, ← (mt_dec hn.1 t1).2] at e
  exact e
theorem ends16 {n k : Nat} (hn : 1 ≤ n) (hk : k < 12 * n * n) : eL n k < 6 * n * n ∧ eR n k < 6 * n * n ∧ eL n k ≠ eR n k := by
  obtain ⟨t1, t2, t3⟩ := edT_spec hn hk
  refine ⟨t_cell t1, t_cell (mt_lt hn t1), ?_⟩
  have h := (mt_dec hn t1).1
  have h2 : edT n k / 4 < mt n (edT n k) / 4 := by rw [h]; exact of_decide_eq_true t2
  unfold eL eR
  omega
theorem n6_16 {n : Nat} (hn : 1 ≤ n ∧ n ≤ 32) : 6 * n * n ≤ 65536 ∧ 12 * n * n ≤ 65536 ∧ 0 < 6 * n * n ∧ 0 < 12 * n * n := by
  have h := n12 hn
  omega
end Fc
end Go.Proofs.YtpfoohpncbkkfaaDoor
