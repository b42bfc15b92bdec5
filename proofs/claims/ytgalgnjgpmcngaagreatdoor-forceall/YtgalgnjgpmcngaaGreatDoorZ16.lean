/-
  Some of the texts of this proof, one behind the other.
-/
import Derived.Deep.AppendLies
import Derived.OwnWalk
import Derived.Deep.QuietTactic
import Derived.Deep.RegionHeld3
import Derived.Test.YtgalgnjgpmcngaaGreatDoorZ15
namespace Go.Proofs.YtgalgnjgpmcngaaGreatDoor
open Tf Ieee
namespace Fc
theorem dvB_nan' {y l : Nat} (hl : isN l = true) : dvB y l = quiet := by
  refine dvB_none ?_
  rw [isN_true] at hl
  have ei := d_inf
  show ((double.read y).quotient 54 (double.read l)).map double.write = none
  rw [read_nan double l d_he (by rw [rg_d]; omega)]
  cases double.read y <;> rfl
theorem zero_cases {x : Nat} (hx : x < 18446744073709551616) (h : mg x = 0) : x = 0 ∨ x = 9223372036854775808 := by
  unfold mg at h
  omega
theorem dv0 {b : Nat} (hb : b < 18446744073709551616) : dvB 0 b = 0 ∨ dvB 0 b = quiet := by
  by_cases n : isN b = true
  · exact .inr (dvB_nan' n)
  · have n2 : ¬ 9218868437227405312 < mg b := by rw [isN_true] at n; exact n
    by_cases z : mg b = 0
    · rcases zero_cases hb z with rfl | rfl
      · exact .inr (by decide +kernel)
      · exact .inr (by decide +kernel)
    · by_cases i : mg b = 9218868437227405312
      · have : b = 9218868437227405312 ∨ b = 18442240474082181120 := by unfold mg at i; omega
        rcases this with rfl | rfl
        · exact .inl (by decide +kernel)
        · exact .inl (by decide +kernel)
      · exact .inl (dvB_z b z (by omega) 0 (by decide))
/-- a quotient hangs on the numerator's canonical form -/
theorem dvB_cl {a b : Nat} (ha : a < 18446744073709551616) (hb : b < 18446744073709551616) : dvB (canonB a) b = dvB a b := by
  rcases canon_cases ha with ⟨h, e⟩ | ⟨h, e⟩ | ⟨h, k, e⟩
  · rw [e, dvB_nan (y := quiet) (by decide), dvB_nan h]
  · rw [e]
    rcases zero_cases ha h with rfl | rfl
    · rfl
    · have k := dvB_cn (a := 0) (b := b) (by omega)
      rw [show negB 0 = 9223372036854775808 by decide] at k
      rw [k]
      rcases dv0 hb with q | q <;> rw [q] <;> decide
  · rw [e]
/-- what the levels pull -/
def puB (G dt ll lr gap : Nat) : Nat := dvB (mlB (mlB G dt) (sbB lr ll)) gap
/-- the speed, pulled -/
def u1B (G dt u ll lr gap : Nat) : Nat := sbB u (puB G dt ll lr gap)
/-- the depth over the edge -/
def hB (dl dr : Nat) : Nat := mlB 4602678819172646912 (addB dl dr)
/-- what the bed drags -/
def drB (D dt u1 h : Nat) : Nat := addB 4607182418800017408 (dvB (mlB (mlB D dt) (mg u1)) h)
/-- within what is fastest -/
def cuB (x : Nat) : Nat := if fgt x 4652218415073722368 = true then 4652218415073722368 else if flt x 13875590451928498176 = true then 13875590451928498176 else if isN x = true then 0 else canonB x
/-- the speed behind a step, of an open edge -/
def spB (G dt D u ll lr dl dr gap : Nat) : Nat := if fgt (hB dl dr) 0 = true then cuB (dvB (u1B G dt u ll lr gap) (drB D dt (u1B G dt u ll lr gap) (hB dl dr))) else 0
/-- whether water can go -/
def opB (wl wr : Int) (ll lr bl br : Nat) : Bool := !((!decide (0 < wl) && !decide (0 < wr)) || (!decide (0 < wl) && (flt lr bl || feq lr bl)) || (!decide (0 < wr) && (flt ll br || feq ll br)))
section
variable {G dt D u ll lr dl dr gap : Nat}
theorem puB_lt (G dt ll lr gap : Nat) : puB G dt ll lr gap < 18446744073709551616 := dvB_lt _ _
theorem hB_lt (h1 : dl < 18446744073709551616) (h2 : dr < 18446744073709551616) : hB dl dr < 18446744073709551616 := mlB_lt (by omega) (addB_lt _ _ h1 h2)
theorem mg_lt64 (x : Nat) : mg x < 18446744073709551616 := by unfold mg; omega
theorem rk_1024 : rk 4652218415073722368 = 4652218415073722368 ∧ rk 13875590451928498176 = -4652218415073722368 ∧ isN 4652218415073722368 = false ∧ isN 13875590451928498176 = false := by decide
/-- what cut answers, by order -/
theorem cuB_cases {x : Nat} (hx : x < 18446744073709551616) : (isN x = true ∧ cuB x = 0) ∨ (isN x = false ∧ 4652218415073722368 < rk x ∧ cuB x = 4652218415073722368) ∨ (isN x = false ∧ rk x < -4652218415073722368 ∧ cuB x = 13875590451928498176) ∨ (isN x = false ∧ -4652218415073722368 ≤ rk x ∧ rk x ≤ 4652218415073722368 ∧ cuB x = canonB x) := by
  have g := fgt_rk x 4652218415073722368 hx (by omega)
  have l := flt_rk x 13875590451928498176 hx (by omega)
  rw [rk_1024.1, rk_1024.2.2.1] at g
  rw [rk_1024.2.1, rk_1024.2.2.2] at l
  unfold cuB
  cases n : isN x with
  | true =>
    rw [n] at g l
    simp at g l
    left
    rw [g, l]
    simp
  | false =>
    rw [n] at g l
    simp at g l
    right
    by_cases c1 : 4652218415073722368 < rk x
    · left
      have : fgt x 4652218415073722368 = true := by rw [g]; exact decide_eq_true c1
      rw [this]
      exact ⟨rfl, c1, by simp⟩
    · have e1 : fgt x 4652218415073722368 = false := by rw [g]; exact decide_eq_false c1
      right
      by_cases c2 : rk x < -4652218415073722368
      · left
        have e2 : flt x 13875590451928498176 = true := by rw [l]; exact decide_eq_true c2
        rw [e1, e2]
        exact ⟨rfl, c2, by simp⟩
      · right
        have e2 : flt x 13875590451928498176 = false := by rw [l]; exact decide_eq_false c2
        rw [e1, e2]
        exact ⟨rfl, by omega, by omega, by simp⟩
/-- canonical, and within what is fastest -/
theorem spB_in (G dt D u ll lr dl dr gap : Nat) : spB G dt D u ll lr dl dr gap < 18446744073709551616 ∧ canonB (spB G dt D u ll lr dl dr gap) = spB G dt D u ll lr dl dr gap ∧ isN (spB G dt D u ll lr dl dr gap) = false ∧ -4652218415073722368 ≤ rk (spB G dt D u ll lr dl dr gap) ∧ rk (spB G dt D u ll lr dl dr gap) ≤ 4652218415073722368 := by
  unfold spB
  by_cases q : fgt (hB dl dr) 0 = true
  · rw [if_pos q]
    have hx := dvB_lt (u1B G dt u ll lr gap) (drB D dt (u1B G dt u ll lr gap) (hB dl dr))
    have hc := dvB_canon (u1B G dt u ll lr gap) (drB D dt (u1B G dt u ll lr gap) (hB dl dr))
    generalize dvB (u1B G dt u ll lr gap) (drB D dt (u1B G dt u ll lr gap) (hB dl dr)) = x at *
    rcases cuB_cases hx with ⟨_, e⟩ | ⟨_, _, e⟩ | ⟨_, _, e⟩ | ⟨n, h1, h2, e⟩ <;> rw [e]
    · decide
    · decide
    · decide
    · rw [hc]
      exact ⟨hx, hc, n, h1, h2⟩
  · rw [if_neg q]
    decide
end
end Fc
end Go.Proofs.YtgalgnjgpmcngaaGreatDoor

namespace Go.Proofs.YtgalgnjgpmcngaaGreatDoor
open Tf Ieee
theorem infW_form (s : Bool) : infW s = if s = true then 9223372036854775808 + 9218868437227405312 else 9218868437227405312 := by cases s <;> rfl
/-- a product's magnitude hangs on the magnitudes alone, its sign on the signs -/
theorem mul_form (a b : Nat) (_ha : a < 18446744073709551616) (hb : b < 18446744073709551616) :
    (∀ s, s < 18446744073709551616 → mg s = mg a → double.mul s b = none) ∨
    ∃ m, m ≤ 9218868437227405312 ∧ ∀ s, s < 18446744073709551616 → mg s = mg a → double.mul s b = some (if (ng s ^^ ng b) = true then 9223372036854775808 + m else m) := by
  rcases three b with kb | kb | kb
  · rcases three a with ka | ka | ka
    · refine .inr ⟨min (rung 52 1074 (mv (mg a) * mv (mg b))) 9218868437227405312, Nat.min_le_right _ _, fun s hs e => ?_⟩
      rw [mul_d s b hs hb (by omega) kb, e]
    · by_cases z : mg b = 0
      · refine .inl fun s hs e => ?_
        rw [mul_if s b hs hb (by omega) kb, if_pos z]
      · refine .inr ⟨9218868437227405312, Nat.le_refl _, fun s hs e => ?_⟩
        rw [mul_if s b hs hb (by omega) kb, if_neg z, infW_form]
    · refine .inl fun s hs e => mul_nan s b (.inl ?_)
      rw [isN_true] at ka ⊢
      omega
  · rcases three a with ka | ka | ka
    · by_cases z : mg a = 0
      · refine .inl fun s hs e => ?_
        rw [mul_fi s b hs hb (by omega) kb, if_pos (by omega)]
      · refine .inr ⟨9218868437227405312, Nat.le_refl _, fun s hs e => ?_⟩
        rw [mul_fi s b hs hb (by omega) kb, if_neg (by omega), infW_form]
    · refine .inr ⟨9218868437227405312, Nat.le_refl _, fun s hs e => ?_⟩
      rw [mul_ii s b hs hb (by omega) kb, infW_form]
    · refine .inl fun s hs e => mul_nan s b (.inl ?_)
      rw [isN_true] at ka ⊢
      omega
  · exact .inl fun s _ _ => mul_nan s b (.inr kb)
theorem form_ng (s : Bool) {m : Nat} (h : m ≤ 9218868437227405312) : ng (if s = true then 9223372036854775808 + m else m) = s ∧ mg (if s = true then 9223372036854775808 + m else m) = m ∧ (if s = true then 9223372036854775808 + m else m) < 18446744073709551616 ∧ isN (if s = true then 9223372036854775808 + m else m) = false := by
  cases s
  · simp only [Bool.false_eq_true, if_false]
    have e : mg m = m := mg_of_lt (by omega)
    exact ⟨ng_of_lt (by omega), e, by omega, isN_false.2 (by omega)⟩
  · simp only [if_true]
    have e : mg (9223372036854775808 + m) = m := by unfold mg; omega
    exact ⟨ng_of_ge (by omega), e, by omega, isN_false.2 (by omega)⟩
/-- opposites: both NaN, or the one the other's opposite -/
def Opp (x y : Nat) : Prop := (isN x = true ∧ isN y = true) ∨ (isN x = false ∧ y = negB x)
theorem negB_form (s : Bool) {m : Nat} (h : m ≤ 9218868437227405312) : negB (if s = true then 9223372036854775808 + m else m) = if (!s) = true then 9223372036854775808 + m else m := by
  unfold negB
  rw [(form_ng s h).1]
  cases s
  · simp only [Bool.false_eq_true, if_false, Bool.not_false, if_true]; omega
  · simp only [if_true, Bool.not_true, Bool.false_eq_true, if_false]; omega
theorem Opp.mul {x y b : Nat} (hx : x < 18446744073709551616) (hb : b < 18446744073709551616) (hy : y < 18446744073709551616) (h : Opp x y) : Opp (mlB x b) (mlB y b) := by
  rcases h with ⟨n1, n2⟩ | ⟨n1, rfl⟩
  · refine .inl ⟨?_, ?_⟩
    · rw [mlB_none (mul_nan x b (.inl n1))]; decide
    · rw [mlB_none (mul_nan y b (.inl n2))]; decide
  · rcases mul_form x b hx hb with h | ⟨m, hm, h⟩
    · refine .inl ⟨?_, ?_⟩
      · rw [mlB_none (h x hx rfl)]; decide
      · rw [mlB_none (h _ hy (negB_mg hx))]; decide
    · refine .inr ⟨?_, ?_⟩
      · rw [mlB_some (h x hx rfl)]; exact (form_ng _ hm).2.2.2
      · rw [mlB_some (h x hx rfl), mlB_some (h _ hy (negB_mg hx)), negB_form _ hm, negB_ng hx]
        cases ng x <;> cases ng b <;> rfl
/-- not below nothing, or a NaN -/
def Nnn (x : Nat) : Prop := isN x = true ∨ ng x = false
theorem Nnn.mul {x b : Nat} (hx : x < 18446744073709551616) (hb : b < 18446744073709551616) (h : Nnn x) (k : Nnn b) : Nnn (mlB x b) := by
  rcases h with h | h
  · left; rw [mlB_none (mul_nan x b (.inl h))]; decide
  · rcases k with k | k
    · left; rw [mlB_none (mul_nan x b (.inr k))]; decide
    · rcases mul_form x b hx hb with e | ⟨m, hm, e⟩
      · left; rw [mlB_none (e x hx rfl)]; decide
      · right; rw [mlB_some (e x hx rfl), (form_ng _ hm).1, h, k]; rfl
/-- nothing, or a NaN -/
def Zn (x : Nat) : Prop := isN x = true ∨ mg x = 0
theorem Zn.mul {x b : Nat} (hx : x < 18446744073709551616) (hb : b < 18446744073709551616) (h : Zn x) : Zn (mlB x b) := by
  rcases h with h | h
  · left; rw [mlB_none (mul_nan x b (.inl h))]; decide
  · rcases three b with k | k | k
    · right
      have e : mv (mg x) * mv (mg b) = 0 := by rw [h, mv_zero, Nat.zero_mul]
      have r : rung 52 1074 0 = 0 := by decide +kernel
      rw [mlB_some (mul_d x b hx hb (by omega) k), e, r, Nat.zero_min]
      cases (ng x ^^ ng b) <;> decide
    · left; rw [mlB_none (by rw [mul_fi x b hx hb (by omega) k, if_pos h])]; decide
    · left; rw [mlB_none (mul_nan x b (.inr k))]; decide
section
variable {u d l t : Nat} (hu : u < 18446744073709551616) (hd : d < 18446744073709551616) (hl : l < 18446744073709551616) (ht : t < 18446744073709551616)
end
end Go.Proofs.YtgalgnjgpmcngaaGreatDoor

namespace Go.Proofs.YtgalgnjgpmcngaaGreatDoor
open Go.RowKit Tf Cu Go.Deep
/-- a list of the call's own, of so many floats -/
def OwnG (B : Nat) (v : Value) (l : List Nat) (w : World) : Prop := w.ownsRow B 22 1 v l.length (l.map (Value.float .f64))
theorem OwnG.fl {B : Nat} {v : Value} {l : List Nat} {w : World} (h : OwnG B v l w) (hl : ∀ x ∈ l, x < 18446744073709551616) : ∃ a0 cap, v = .slice a0 l.length cap ∧ IsFl w a0 l.length (fun j => l.getD j 0) := by
  rcases h.2 with ⟨rfl, h0⟩ | ⟨g, cap, cur, rfl, hb, hg, h1, h2, h3, h4⟩
  · exact ⟨none, 0, by rw [h0], fun k hk => by omega⟩
  · refine ⟨some ⟨g, 0, none⟩, cap, rfl, fun k hk => ?_⟩
    have hx : l.getD k 0 = l[k] := by simp [List.getD, hk]
    refine ⟨by dsimp only; rw [hx]; exact hl _ (List.getElem_mem _), g, 0, rfl, lt_of_block hg, ?_⟩
    have e := h.cells (g := g) rfl k (.float .f64 (l.getD k 0)) (by simp [hk])
    rw [add_off12] at e
    exact e
theorem OwnG.to {B : Nat} {v : Value} {l : List Nat} {w w' : World} (h : OwnG B v l w) (hb : Ab w w') : OwnG B v l w' := by
  refine ⟨h.1, ?_⟩
  rcases h.2 with h0 | ⟨g, cap, cur, e, hb', hg, h1, h2, h3, h4⟩
  · exact .inl h0
  · exact .inr ⟨g, cap, cur, e, hb', hb.heap hg, h1, h2, h3, h4⟩
theorem OwnG.pushed {v : Value} {l : List Nat} {w0 wr w' : World} {x g c : Nat} {O : Obj} (hv : OwnG w0.heap.size v l wr) (hb : Ab w0 wr)
    (o : w'.ownsRow w0.heap.size 22 1 (.slice (some ⟨g, 0, none⟩) (l.length + 1) c) (l.length + 1) (l.map (Value.float .f64) ++ [.float .f64 x])) (hg : (wr.alloc O).grownBy w' v.ownBlock) :
    OwnG w0.heap.size (.slice (some ⟨g, 0, none⟩) (l.length + 1) c) (l ++ [x]) w' ∧ Ab w0 w' := by
  refine ⟨?_, ?_⟩
  · unfold OwnG
    rw [List.length_append, List.map_append]
    exact o
  · refine ((bl1 wr O |> Ab.trans hb : Below _ _ _)).grown hg (by have := hb.size; simp; omega) (fun k hk => ?_)
    exact (World.ownsRow.lt hv k hk).1
theorem info_g : ∃ i, Tryz.prog.info? 22 = some i ∧ i.zero = some (.float .f64 0) ∧ i.size = 1 ∧ i.bytes = 8 := by
  have h := infoF64
  cases e : Tryz.prog.info? 22 with
  | none => rw [e] at h; cases h
  | some i =>
    rw [e] at h
    simp at h
    exact ⟨i, rfl, h.1, h.2.1, h.2.2⟩
end Go.Proofs.YtgalgnjgpmcngaaGreatDoor

namespace Go.Proofs.YtgalgnjgpmcngaaGreatDoor
open Go.RowKit Tf Cu Go.Deep
namespace Fc
/-- an edge's Left -/
def eL (n i : Nat) : Nat := edT n i / 4
/-- an edge's Right -/
def eR (n i : Nat) : Nat := mt n (edT n i) / 4
/-- an edge's gap -/
def gpE (n i : Nat) : Nat := GpC n (edT n i / 4) (edT n i % 4)
/-- a cell's level -/
def lvC (n : Nat) (B : Nat → Nat) (W : Nat → Int) (c : Nat) : Nat := lvl (B c) (W c) (arC n c)
/-- a cell's depth -/
def dpC (n : Nat) (W : Nat → Int) (c : Nat) : Nat := dpB (W c) (arC n c)
/-- whether an edge is open -/
def opE (n : Nat) (B : Nat → Nat) (W : Nat → Int) (i : Nat) : Bool := opB (W (eL n i)) (W (eR n i)) (lvC n B W (eL n i)) (lvC n B W (eR n i)) (B (eL n i)) (B (eR n i))
/-- an edge's speed behind a step -/
def spE (n G dt D : Nat) (B : Nat → Nat) (W : Nat → Int) (Sp : Nat → Nat) (i : Nat) : Nat := if opE n B W i = true then spB G dt D (Sp i) (lvC n B W (eL n i)) (lvC n B W (eR n i)) (dpC n W (eL n i)) (dpC n W (eR n i)) (gpE n i) else 0
/-- whether a sea fits -/
def fit4 (n lb lw lt ls : Nat) : Prop := lb = 6 * n * n ∧ lw = 6 * n * n ∧ lt = 6 * n * n ∧ ls = 12 * n * n
/-- whether an edge and a sea are there -/
def has4 (n lb lw lt ls : Nat) (e : Int) : Prop := fit4 n lb lw lt ls ∧ inR e (12 * n * n : Nat) = true
/-- what Open is to answer -/
def OpenC : Prop := ∀ (n gb : Nat) (pb : Option Addr) (lb cb : Nat) (B : Nat → Nat) (pw : Option Addr) (lw cw : Nat) (Wt : Nat → Int) (pt : Option Addr) (lt ct : Nat) (ps : Option Addr) (ls cs : Nat) (sky st e : Int) (w : World), (1 ≤ n ∧ n ≤ 32) → GridOf n gb w → IsFl w pb lb B → IsIn w pw lw Wt → (∃ Sp, IsFl w ps ls Sp) → (-9223372036854775808 ≤ e ∧ e ≤ 9223372036854775807) →
    (has4 n lb lw lt ls e → Calls Tryz.prog 6 #[.pointer (some ⟨gb, 0, none⟩), .agg #[.slice pb lb cb, .slice pw lw cw, .slice pt lt ct, .slice ps ls cs, .int .i64 sky, .int .i64 st], .int .i64 e] w fun x w' => x = .returned (.bool (opE n B Wt e.toNat)) ∧ Below w.heap.size w w') ∧
    (¬ has4 n lb lw lt ls e → Calls Tryz.prog 6 #[.pointer (some ⟨gb, 0, none⟩), .agg #[.slice pb lb cb, .slice pw lw cw, .slice pt lt ct, .slice ps ls cs, .int .i64 sky, .int .i64 st], .int .i64 e] w fun x w' => x = .returned (.bool false) ∧ Below w.heap.size w w')
/-- what Speed is to answer -/
def SpeedC : Prop := ∀ (n gb : Nat) (sd : Int) (dt gr dr : Nat) (lim : Int) (rv : Bool) (pr : Option Addr) (lr cr : Nat) (pb : Option Addr) (lb cb : Nat) (B : Nat → Nat) (pw : Option Addr) (lw cw : Nat) (Wt : Nat → Int) (pt : Option Addr) (lt ct : Nat) (ps : Option Addr) (ls cs : Nat) (Sp : Nat → Nat) (sky st e : Int) (w : World), (1 ≤ n ∧ n ≤ 32) → GridOf n gb w → IsFl w pb lb B → IsIn w pw lw Wt → IsFl w ps ls Sp → (dt < 18446744073709551616 ∧ gr < 18446744073709551616 ∧ dr < 18446744073709551616) → (-9223372036854775808 ≤ e ∧ e ≤ 9223372036854775807) →
    (has4 n lb lw lt ls e → Calls Tryz.prog 8 #[.pointer (some ⟨gb, 0, none⟩), .agg #[.int .i64 sd, .float .f64 dt, .float .f64 gr, .float .f64 dr, .int .i64 lim, .bool rv, .slice pr lr cr], .agg #[.slice pb lb cb, .slice pw lw cw, .slice pt lt ct, .slice ps ls cs, .int .i64 sky, .int .i64 st], .int .i64 e] w fun x w' => x = .returned (.float .f64 (spE n gr dt dr B Wt Sp e.toNat)) ∧ Below w.heap.size w w') ∧
    (¬ has4 n lb lw lt ls e → Calls Tryz.prog 8 #[.pointer (some ⟨gb, 0, none⟩), .agg #[.int .i64 sd, .float .f64 dt, .float .f64 gr, .float .f64 dr, .int .i64 lim, .bool rv, .slice pr lr cr], .agg #[.slice pb lb cb, .slice pw lw cw, .slice pt lt ct, .slice ps ls cs, .int .i64 sky, .int .i64 st], .int .i64 e] w fun x w' => x = .returned (.float .f64 0) ∧ Below w.heap.size w w')
/-- what Speeds is to answer -/
def SpeedsC : Prop := ∀ (n gb : Nat) (sd : Int) (dt gr dr : Nat) (lim : Int) (rv : Bool) (pr : Option Addr) (lr cr : Nat) (pb : Option Addr) (lb cb : Nat) (B : Nat → Nat) (pw : Option Addr) (lw cw : Nat) (Wt : Nat → Int) (pt : Option Addr) (lt ct : Nat) (ps : Option Addr) (ls cs : Nat) (Sp : Nat → Nat) (sky st : Int) (w : World), (1 ≤ n ∧ n ≤ 32) → GridOf n gb w → IsFl w pb lb B → IsIn w pw lw Wt → IsFl w ps ls Sp → (dt < 18446744073709551616 ∧ gr < 18446744073709551616 ∧ dr < 18446744073709551616) →
    (fit4 n lb lw lt ls → Calls Tryz.prog 5 #[.pointer (some ⟨gb, 0, none⟩), .agg #[.int .i64 sd, .float .f64 dt, .float .f64 gr, .float .f64 dr, .int .i64 lim, .bool rv, .slice pr lr cr], .agg #[.slice pb lb cb, .slice pw lw cw, .slice pt lt ct, .slice ps ls cs, .int .i64 sky, .int .i64 st]] w fun e w' => ∃ v, e = .returned (.tuple #[v, .int .i64 0]) ∧ Below w.heap.size w w' ∧ OwnG w.heap.size v ((List.range (12 * n * n)).map (spE n gr dt dr B Wt Sp)) w') ∧
    (¬ fit4 n lb lw lt ls → Calls Tryz.prog 5 #[.pointer (some ⟨gb, 0, none⟩), .agg #[.int .i64 sd, .float .f64 dt, .float .f64 gr, .float .f64 dr, .int .i64 lim, .bool rv, .slice pr lr cr], .agg #[.slice pb lb cb, .slice pw lw cw, .slice pt lt ct, .slice ps ls cs, .int .i64 sky, .int .i64 st]] w fun e w' => e = .returned (.tuple #[.slice none 0 0, .int .i64 1]) ∧ Below w.heap.size w w')
/-- what they are to answer of no net -/
def ForceN : Prop := ∀ (sd : Int) (dt gr dr : Nat) (lim : Int) (rv : Bool) (pr : Option Addr) (lr cr : Nat) (pb : Option Addr) (lb cb : Nat) (pw : Option Addr) (lw cw : Nat) (pt : Option Addr) (lt ct : Nat) (ps : Option Addr) (ls cs : Nat) (sky st e : Int) (w : World),
    (Calls Tryz.prog 6 #[.pointer none, .agg #[.slice pb lb cb, .slice pw lw cw, .slice pt lt ct, .slice ps ls cs, .int .i64 sky, .int .i64 st], .int .i64 e] w fun x w' => x = .returned (.bool false) ∧ Below w.heap.size w w') ∧
    (Calls Tryz.prog 8 #[.pointer none, .agg #[.int .i64 sd, .float .f64 dt, .float .f64 gr, .float .f64 dr, .int .i64 lim, .bool rv, .slice pr lr cr], .agg #[.slice pb lb cb, .slice pw lw cw, .slice pt lt ct, .slice ps ls cs, .int .i64 sky, .int .i64 st], .int .i64 e] w fun x w' => x = .returned (.float .f64 0) ∧ Below w.heap.size w w') ∧
    (Calls Tryz.prog 5 #[.pointer none, .agg #[.int .i64 sd, .float .f64 dt, .float .f64 gr, .float .f64 dr, .int .i64 lim, .bool rv, .slice pr lr cr], .agg #[.slice pb lb cb, .slice pw lw cw, .slice pt lt ct, .slice ps ls cs, .int .i64 sky, .int .i64 st]] w fun x w' => x = .returned (.tuple #[.slice none 0 0, .int .i64 2]) ∧ Below w.heap.size w w')
theorem spE_in (n G dt D : Nat) (B : Nat → Nat) (W : Nat → Int) (Sp : Nat → Nat) (i : Nat) : spE n G dt D B W Sp i < 18446744073709551616 ∧ canonB (spE n G dt D B W Sp i) = spE n G dt D B W Sp i ∧ isN (spE n G dt D B W Sp i) = false ∧ -4652218415073722368 ≤ rk (spE n G dt D B W Sp i) ∧ rk (spE n G dt D B W Sp i) ≤ 4652218415073722368 := by
  unfold spE
  split
  · exact spB_in _ _ _ _ _ _ _ _ _
  · exact ⟨by decide, by decide, by decide, by decide, by decide⟩
/-- a list of the call's own, as a row -/
theorem ownG_row {B : Nat} {v : Value} {l : List Nat} {w : World} (h : OwnG B v l w) (h0 : 0 < l.length) : ∃ g cap F, v = .slice (some ⟨g, 0, none⟩) l.length cap ∧ B ≤ g ∧ l.length ≤ cap ∧ cap ≤ maxLen ∧ w.rowIs g 22 cap F ∧ ∀ i, i < l.length → F i = .float .f64 (l.getD i 0) := by
  rcases h.2 with ⟨rfl, hz⟩ | ⟨g, cap, cur, e, hb, hg, h1, h2, h3, h4⟩
  · omega
  · refine ⟨g, cap, fun i => (cur[i]?).getD (.bool false), e, hb, h1, h2, ⟨cur, hg, by omega, fun i hi => ?_⟩, fun i hi => ?_⟩
    · have : i < cur.size := by omega
      simp [this]
    · have q : (cur.toList.take l.length)[i]? = (l.map (Value.float .f64))[i]? := by
        have h4' : cur.toList.take l.length = l.map (Value.float .f64) := by simpa using h4
        rw [h4']
      rw [List.getElem?_take, if_pos hi, Array.getElem?_toList] at q
      dsimp only
      rw [q]
      simp [hi, List.getD]
theorem ownG_two {B n : Nat} {v : Value} {x : Nat → Nat} {w : World} (h : OwnG B v ((List.range n).map x) w) (h0 : 0 < n) : ∃ g cap F, v = .slice (some ⟨g, 0, none⟩) n cap ∧ B ≤ g ∧ n ≤ cap ∧ cap ≤ maxLen ∧ w.rowIs g 22 cap F ∧ ∀ i, i < n → F i = .float .f64 (x i) := by
  have e : ((List.range n).map x).length = n := by simp
  obtain ⟨g, cap, F, h1, h2, h3, h4, h5, h6⟩ := ownG_row h (by rw [e]; exact h0)
  rw [e] at h1 h3 h6
  exact ⟨g, cap, F, h1, h2, h3, h4, h5, fun i hi => by rw [h6 i hi]; simp [List.getD, hi]⟩
/-- beds and waters of the test of life, changed -/
def lvB (i : Nat) : Nat := if i = 0 then 4613937818241073152 else 0
def lvW (i : Nat) : Int := if i = 0 then 0 else lkW i
theorem lf_0 : flt (spE 1 4607182418800017408 4602678819172646912 0 (fun _ => 0) lkW (fun _ => 0) 0) 0 = true := by decide +kernel
theorem lf_1 : spE 1 4607182418800017408 4602678819172646912 0 (fun _ => 0) lkW (fun _ => 0) 1 = 0 := by decide +kernel
theorem lf_2 : opE 1 lvB lvW 0 = false := by decide +kernel
theorem lf_3 : opE 1 lvB lvW 4 = true := by decide +kernel
end Fc
end Go.Proofs.YtgalgnjgpmcngaaGreatDoor

namespace Go.Proofs.YtgalgnjgpmcngaaGreatDoor
open Go.RowKit Tf
theorem mlB_qq (a b : Nat) : mlB (qB a) (qB b) = mlB a b := by unfold mlB; rw [mul_ql, mul_qr]
end Go.Proofs.YtgalgnjgpmcngaaGreatDoor

namespace Go.Proofs.YtgalgnjgpmcngaaGreatDoor
open Go.RowKit Tf
attribute [local go_sem] run_bits run_from raw_feq raw_fne raw_flt raw_fgt run_neg
theorem isC_eq {r c : Nat} (h : IsC r c) (c0 : 0 < c) (c1 : c ≤ 9218868437227405312) : r = c := by
  have e := h.2
  unfold canonB at e
  split at e
  · unfold quiet at e; omega
  · split at e
    · omega
    · exact e
theorem add_can {P : Program} (w : World) (s x : Nat) (hs : s < 18446744073709551616) (hx : x < 18446744073709551616) :
    ∃ r n, (∀ t, (binOp .add t (.float .f64 s) (.float .f64 x)).run P w = .ok (.float .f64 r) (w.drewN n)) ∧ IsC r (addB s x) := by
  cases e : Ieee.double.add s x with
  | none => exact ⟨nanOf w s x, 1, fun t => run_nan_add w t s x e, nanOf_lt _ _ _, by rw [addB_none e]; unfold canonB; rw [if_pos (isN_nanOf _ _ _)]⟩
  | some r => exact ⟨r, 0, fun t => run_float_arith w .add t .f64 s x r e, by
      have q := IsQ.add (IsQ.self hs) (IsQ.self hx) e
      exact q.1, by rw [addB_some e]⟩
theorem depth_no (n a : Int) (w : World) (h : n < 1 ∨ a < 1) :
    Calls Tryz.prog 79 #[.int .i64 n, .int .i64 a] w fun e w' => e = .returned (.float .f64 0) ∧ w' = w := by
  by_cases c : n < 1
  · go_enter Tryz.func79, Tryz.ntmps79
    go_wp2
    go_ret
    exact ⟨rfl, rfl⟩
  · have d : a < 1 := by omega
    clear h
    go_enter Tryz.func79, Tryz.ntmps79
    go_wp2
    go_ret
    exact ⟨rfl, rfl⟩
theorem depth_yes (n a : Int) (w : World) (h1 : 1 ≤ n) (h2 : 1 ≤ a) (n2 : n ≤ 9223372036854775807) (a2 : a ≤ 9223372036854775807) :
    Calls Tryz.prog 79 #[.int .i64 n, .int .i64 a] w fun e w' => e = .returned (.float .f64 (dpB n a)) ∧ ∃ k, w' = w.drewN k := by
  obtain ⟨r, k, hr, hc⟩ := div_any (P := Tryz.prog) w (fw n) (fw a)
  have e := isC_eq hc (by rw [← dp_of h1 h2]; have := dp_in h1 h2 n2 a2; omega) (by rw [← dp_of h1 h2]; have := dp_in h1 h2 n2 a2; omega)
  rw [dp_of h1 h2, ← e]
  clear e hc
  have F1 := hid (fromInt_any n w)
  have F2 := hid (fromInt_any a w)
  rw [show rn false (n * one) = fw n from rfl] at F1
  rw [show rn false (a * one) = fw a from rfl] at F2
  generalize fw n = x at *
  generalize fw a = y at *
  go_enter Tryz.func79, Tryz.ntmps79
  go_wp2_with fail
  refine F1.out.mono ?_
  rintro e w' ⟨rfl, rfl⟩
  go_wp2_with fail
  refine F2.out.mono ?_
  rintro e w' ⟨rfl, rfl⟩
  go_wp2
  go_ret
  exact ⟨rfl, k, rfl⟩
theorem depth_at (n a : Int) (w : World) (n2 : n ≤ 9223372036854775807) (a2 : a ≤ 9223372036854775807) :
    Calls Tryz.prog 79 #[.int .i64 n, .int .i64 a] w fun e w' => e = .returned (.float .f64 (dpB n a)) ∧ ∃ k, w' = w.drewN k := by
  by_cases c : n < 1 ∨ a < 1
  · rw [dp_zero c]
    exact (depth_no n a w c).mono fun _ _ h => ⟨h.1, 0, h.2⟩
  · exact depth_yes n a w (by omega) (by omega) n2 a2
theorem level_at (b : Nat) (n a : Int) (w : World) (hb : b < 18446744073709551616) (n2 : n ≤ 9223372036854775807) (a2 : a ≤ 9223372036854775807) :
    Calls Tryz.prog 78 #[.float .f64 b, .int .i64 n, .int .i64 a] w fun e w' => e = .returned (.float .f64 (lvl b n a)) ∧ ∃ k, w' = w.drewN k := by
  have D := hid (depth_at n a w n2 a2)
  have e0 : lvl b n a = addB b (dpB n a) := rfl
  rw [e0]
  have hd : dpB n a < 18446744073709551616 := by have := dp_le n2 a2; omega
  clear e0
  generalize dpB n a = d at *
  have AD : Hid (∀ k : Nat, ∃ r m, (∀ t, (binOp .add t (.float .f64 b) (.float .f64 d)).run Tryz.prog (w.drewN k) = .ok (.float .f64 r) ((w.drewN k).drewN m)) ∧ IsC r (addB b d)) := fun k => add_can _ b d hb hd
  generalize addB b d = y at *
  go_enter Tryz.func78, Tryz.ntmps78
  go_wp2_with fail
  refine D.out.mono ?_
  rintro e w' ⟨rfl, k, rfl⟩
  obtain ⟨r, m, hr, hc⟩ := AD.out k
  have C := hid (canon_any r (w.drewN (k + m)) hc.1)
  rw [hc.2] at C
  go_wp2_with fail
  refine C.out.mono ?_
  rintro e w' ⟨rfl, rfl⟩
  go_wp2
  go_ret
  exact ⟨rfl, k + m, rfl⟩
end Go.Proofs.YtgalgnjgpmcngaaGreatDoor

namespace Go.Proofs.YtgalgnjgpmcngaaGreatDoor
open Go.RowKit Tf Cu Go.Deep
namespace Fc
theorem canon_qB {x : Nat} : canonB (qB x) = canonB x := by
  cases h : isN x
  · rw [qB_of h]
  · rw [qB_N h]
    have e : canonB x = quiet := by unfold canonB; rw [if_pos h]
    rw [e]
    decide
/-- one multiplication -/
theorem mul_o {P : Program} (w : World) (a b : Nat) (ha : a < 18446744073709551616) (hb : b < 18446744073709551616) : ∃ r n, (∀ t, (binOp .mul t (.float .f64 a) (.float .f64 b)).run P w = .ok (.float .f64 r) (w.drewN n)) ∧ IsQ r (mlB a b) := by
  obtain ⟨r, n, h1, h2⟩ := mul_any (P := P) w a (qB a) b (qB b) (IsQ.self ha) (IsQ.self hb)
  rw [mlB_qq] at h2
  exact ⟨r, n, h1, h2⟩
/-- one subtraction -/
theorem sub_o {P : Program} (w : World) (a b : Nat) (ha : a < 18446744073709551616) (hb : b < 18446744073709551616) : ∃ r n, (∀ t, (binOp .sub t (.float .f64 a) (.float .f64 b)).run P w = .ok (.float .f64 r) (w.drewN n)) ∧ IsC r (sbB a b) := by
  obtain ⟨r, n, h1, h2⟩ := sub_any (P := P) w a (qB a) b (qB b) (IsQ.self ha) (IsQ.self hb)
  rw [sbB_q hb] at h2
  exact ⟨r, n, h1, h2⟩
/-- a product's canonical form hangs on its factors' -/
theorem ml_can {a b c d : Nat} (ha : a < 18446744073709551616) (hb : b < 18446744073709551616) (hc : c < 18446744073709551616) (hd : d < 18446744073709551616) (h : canonB a = canonB c) (k : canonB b = canonB d) : canonB (mlB a b) = canonB (mlB c d) := by
  rw [← mlB_canon ha hb, h, mlB_canon hc hb, mlB_comm, ← mlB_canon hb hc, k, mlB_canon hd hc, mlB_comm]
theorem isQ_can {r q : Nat} (h : IsQ r q) : canonB r = canonB q := by rw [← h.2, canon_qB]
/-- the pull -/
theorem pu_o {G dt ll lr gap r1 rd r2 : Nat} (hG : G < 18446744073709551616) (ht : dt < 18446744073709551616) (h1 : ll < 18446744073709551616) (h2 : lr < 18446744073709551616) (hg : gap < 18446744073709551616) (i1 : IsQ r1 (mlB G dt)) (i2 : IsC rd (sbB lr ll)) (i3 : IsQ r2 (mlB r1 rd)) : dvB r2 gap = puB G dt ll lr gap := by
  have hd := sbB_lt h2 h1
  unfold puB
  rw [← dvB_cl i3.1 hg, ← dvB_cl (mlB_lt (mlB_lt hG ht) hd) hg, isQ_can i3, ml_can i1.1 i2.1 (mlB_lt hG ht) hd (isQ_can i1) (i2.2.trans (canon_sbB h2 h1).symm)]
/-- the speed, pulled -/
theorem u1_o {G dt u ll lr gap r3 : Nat} (hu : u < 18446744073709551616) (i : IsC r3 (puB G dt ll lr gap)) : sbB u r3 = u1B G dt u ll lr gap := by
  unfold u1B
  rw [← sbB_canon hu i.1, ← sbB_canon hu (puB_lt _ _ _ _ _), i.2]
  congr 1
  unfold puB
  exact (dvB_canon _ _).symm
/-- a comparison with nothing hangs on the canonical form -/
theorem fgt_can {x y : Nat} (hx : x < 18446744073709551616) (hy : y < 18446744073709551616) (h : canonB x = canonB y) : fgt x 0 = fgt y 0 ∧ (fgt x 0 = true → x = y) := by
  have r0 : rk 0 = 0 := by decide
  have n0 : isN 0 = false := by decide
  rw [fgt_rk x 0 hx (by decide), fgt_rk y 0 hy (by decide), r0, n0]
  rcases canon_cases hx with ⟨a, e⟩ | ⟨a, e⟩ | ⟨a, k, e⟩
  · rcases canon_cases hy with ⟨b, f⟩ | ⟨b, f⟩ | ⟨b, l, f⟩
    · rw [a, b]; simp
    · rw [e, f] at h; exact absurd h (by decide)
    · rw [e, f] at h; rw [← h] at b; exact absurd b (by decide)
  · have rx : rk x = 0 := by unfold rk; rw [a]; split <;> rfl
    rcases canon_cases hy with ⟨b, f⟩ | ⟨b, f⟩ | ⟨b, l, f⟩
    · rw [e, f] at h; exact absurd h (by decide)
    · have ry : rk y = 0 := by unfold rk; rw [b]; split <;> rfl
      rw [rx, ry]; simp
    · rw [e, f] at h; rw [← h] at l; exact absurd rfl l
  · rcases canon_cases hy with ⟨b, f⟩ | ⟨b, f⟩ | ⟨b, l, f⟩
    · rw [e, f] at h; rw [h] at a; exact absurd a (by decide)
    · rw [e, f] at h; rw [h] at k; exact absurd rfl k
    · rw [e, f] at h; subst h; simp
/-- the depth over the edge -/
theorem h_o {dl dr rs rh : Nat} (h1 : dl < 18446744073709551616) (h2 : dr < 18446744073709551616) (i1 : IsC rs (addB dl dr)) (i2 : IsQ rh (mlB 4602678819172646912 rs)) : fgt rh 0 = fgt (hB dl dr) 0 ∧ (fgt rh 0 = true → rh = hB dl dr) := by
  refine fgt_can i2.1 (hB_lt h1 h2) ?_
  unfold hB
  rw [isQ_can i2]
  refine ml_can (by decide) i1.1 (by decide) (addB_lt _ _ h1 h2) rfl ?_
  rw [i1.2]
  exact (canon_addB _ _ h1 h2).symm
/-- a magnitude -/
theorem mag_o {r x : Nat} (i : IsC r x) : canonB (mg r) = canonB (mg x) := by
  have hx : x < 18446744073709551616 := by rw [← i.2]; exact canonB_lt i.1
  rcases canon_cases i.1 with ⟨a, e⟩ | ⟨a, e⟩ | ⟨a, k, e⟩
  · have ex : x = quiet := by rw [← i.2, e]
    subst ex
    have n : isN (mg r) = true := by
      rw [isN_true] at a ⊢
      have : mg (mg r) = mg r := by unfold mg; omega
      rw [this]; exact a
    have c : canonB (mg r) = quiet := by unfold canonB; rw [if_pos n]
    rw [c]
    decide
  · have ex : x = 0 := by rw [← i.2, e]
    subst ex
    rw [a]
    rfl
  · have ex : x = r := by rw [← i.2, e]
    rw [ex]
/-- what the bed drags, over the depth -/
theorem dg_o {D dt u1 h r6 m r7 : Nat} (hD : D < 18446744073709551616) (ht : dt < 18446744073709551616) (hh : h < 18446744073709551616) (i6 : IsQ r6 (mlB D dt)) (hm : m < 18446744073709551616) (im : canonB m = canonB (mg u1)) (i7 : IsQ r7 (mlB r6 m)) : dvB r7 h = dvB (mlB (mlB D dt) (mg u1)) h := by
  have hu := mg_lt64 u1
  rw [← dvB_cl i7.1 hh, ← dvB_cl (mlB_lt (mlB_lt hD ht) hu) hh, isQ_can i7, ml_can i6.1 hm (mlB_lt hD ht) hu (isQ_can i6) im]
theorem add_can2 {a x y : Nat} (ha : a < 18446744073709551616) (hx : x < 18446744073709551616) (hy : y < 18446744073709551616) (h : canonB x = canonB y) : addB a x = addB a y := by
  have e : ∀ z, z < 18446744073709551616 → addB a z = sbB a (negB z) := fun z hz => by unfold sbB; rw [negB_negB' hz]
  have c : canonB (negB x) = canonB (negB y) := by
    have hx2 : IsC x (canonB x) := ⟨hx, rfl⟩
    have hy2 : IsC y (canonB x) := ⟨hy, h.symm⟩
    rw [cn_of hx2, cn_of hy2]
  rw [e x hx, e y hy, ← sbB_canon ha (negB_lt' hx), ← sbB_canon ha (negB_lt' hy), c]
/-- one and something is no nought with a sign -/
theorem one_nz {y z : Nat} (hy : y < 18446744073709551616) (e : Ieee.double.add 4607182418800017408 y = some z) : z ≠ 9223372036854775808 := by
  rcases three y with c | c | c
  · rw [add_d 4607182418800017408 y (by decide) hy (by decide) c] at e
    injection e with e
    rw [show (ng 4607182418800017408 && ng y) = false by rw [show ng 4607182418800017408 = false by decide]; rfl] at e
    rw [← e]
    generalize sv 4607182418800017408 + sv y = v
    by_cases z : v = 0
    · subst z; rw [rn_zero]; decide
    · intro q
      have h1 : mg (rn false v) = 0 := by rw [q]; decide
      rw [rn_mg] at h1
      have h2 : 1 ≤ rung 52 0 v.natAbs := by
        have e1 : mag 52 1 = 1 := by decide
        exact rung_ge (by omega) (by rw [Nat.pow_zero, Nat.mul_one, e1]; omega)
      generalize rung 52 0 v.natAbs = r at *
      omega
  · rw [add_fi 4607182418800017408 y hy (by decide) c] at e
    injection e with e
    rw [← e]
    cases ng y <;> decide
  · rw [add_nan 4607182418800017408 y (.inr c)] at e
    cases e
/-- a quotient by one and something -/
theorem dv_o {x y r9 : Nat} (hy : y < 18446744073709551616) (hr : r9 < 18446744073709551616) (e : Ieee.double.add 4607182418800017408 y = some r9 ∨ (Ieee.double.add 4607182418800017408 y = none ∧ isN r9 = true)) : dvB x r9 = dvB x (addB 4607182418800017408 y) := by
  rcases e with e | ⟨e, n⟩
  · rw [addB_some e]
    rcases canon_cases hr with ⟨a, c⟩ | ⟨a, c⟩ | ⟨a, k, c⟩
    · rw [c, dvB_nan' a, dvB_nan' (by decide)]
    · rcases zero_cases hr a with q | q
      · rw [q]; rfl
      · exact absurd q (one_nz hy e)
    · rw [c]
  · rw [addB_none e, dvB_nan' n, dvB_nan' (by decide)]
theorem cu_canon {x : Nat} (hx : x < 18446744073709551616) : cuB (canonB x) = cuB x := by
  rcases canon_cases hx with ⟨a, e⟩ | ⟨a, e⟩ | ⟨_, _, e⟩
  · rw [e]
    rcases cuB_cases hx with ⟨_, c⟩ | ⟨n, _⟩ | ⟨n, _⟩ | ⟨n, _⟩
    · rw [c]; decide
    · rw [a] at n; cases n
    · rw [a] at n; cases n
    · rw [a] at n; cases n
  · rw [e]
    rcases zero_cases hx a with rfl | rfl
    · rfl
    · decide
  · rw [e]
/-- one addition, told apart -/
theorem add_o {P : Program} (w : World) (a b : Nat) (ha : a < 18446744073709551616) (hb : b < 18446744073709551616) : ∃ r n, (∀ t, (binOp .add t (.float .f64 a) (.float .f64 b)).run P w = .ok (.float .f64 r) (w.drewN n)) ∧ IsC r (addB a b) ∧ (Ieee.double.add a b = some r ∨ (Ieee.double.add a b = none ∧ isN r = true)) := by
  cases e : Ieee.double.add a b with
  | none => exact ⟨nanOf w a b, 1, fun t => run_nan_add w t a b e, ⟨nanOf_lt _ _ _, by rw [addB_none e]; unfold canonB; rw [if_pos (isN_nanOf _ _ _)]⟩, .inr ⟨rfl, isN_nanOf _ _ _⟩⟩
  | some r => exact ⟨r, 0, fun t => run_float_arith w .add t .f64 a b r e, ⟨(IsQ.add (IsQ.self ha) (IsQ.self hb) e).1, by rw [addB_some e]⟩, .inl rfl⟩
/-- the speed behind a step, from its operations -/
theorem sp_o {G dt D u ll lr dl dr gap r4 r8 r9 r10 h : Nat} (i4 : IsC r4 (u1B G dt u ll lr gap)) (hh : h = hB dl dr) (q : fgt h 0 = true) (i8 : IsC r8 (dvB (mlB (mlB D dt) (mg (u1B G dt u ll lr gap))) h)) (h9 : r9 < 18446744073709551616) (e9 : Ieee.double.add 4607182418800017408 r8 = some r9 ∨ (Ieee.double.add 4607182418800017408 r8 = none ∧ isN r9 = true)) (i10 : IsC r10 (dvB r4 r9)) : cuB r10 = spB G dt D u ll lr dl dr gap := by
  have e1 : dvB r4 r9 = dvB (u1B G dt u ll lr gap) (drB D dt (u1B G dt u ll lr gap) h) := by
    rw [dv_o i8.1 h9 e9, ← dvB_cl i4.1 (addB_lt _ _ (by decide) i8.1), i4.2]
    unfold drB
    rw [add_can2 (by decide) i8.1 (dvB_lt _ _) (by rw [i8.2, dvB_canon])]
  have e2 : cuB r10 = cuB (dvB r4 r9) := by
    rw [← i10.2]
    exact (cu_canon i10.1).symm
  unfold spB
  rw [← hh, if_pos q, e2, e1]
end Fc
end Go.Proofs.YtgalgnjgpmcngaaGreatDoor

namespace Go.Proofs.YtgalgnjgpmcngaaGreatDoor
open Go.RowKit Tf
attribute [local go_sem] run_bits run_from raw_feq raw_fne raw_flt raw_fgt run_neg
theorem rdepth_no11 (n a : Int) (w : World) (h : n < 1 ∨ a < 1) :
    Calls Tryz.prog 70 #[.int .i64 n, .int .i64 a] w fun e w' => e = .returned (.float .f64 0) ∧ w' = w := by
  by_cases c : n < 1
  · go_enter Tryz.func70, Tryz.ntmps70
    go_wp2
    go_ret
    exact ⟨rfl, rfl⟩
  · have d : a < 1 := by omega
    clear h
    go_enter Tryz.func70, Tryz.ntmps70
    go_wp2
    go_ret
    exact ⟨rfl, rfl⟩
theorem rdepth_yes11 (n a : Int) (w : World) (h1 : 1 ≤ n) (h2 : 1 ≤ a) (n2 : n ≤ 9223372036854775807) (a2 : a ≤ 9223372036854775807) :
    Calls Tryz.prog 70 #[.int .i64 n, .int .i64 a] w fun e w' => e = .returned (.float .f64 (dpB n a)) ∧ ∃ k, w' = w.drewN k := by
  obtain ⟨r, k, hr, hc⟩ := div_any (P := Tryz.prog) w (fw n) (fw a)
  have e := isC_eq hc (by rw [← dp_of h1 h2]; have := dp_in h1 h2 n2 a2; omega) (by rw [← dp_of h1 h2]; have := dp_in h1 h2 n2 a2; omega)
  rw [dp_of h1 h2, ← e]
  clear e hc
  have F1 := hid (Ref2.refFromInt_at n _ w (by omega) n2 rfl)
  have F2 := hid (Ref2.refFromInt_at a _ w (by omega) a2 rfl)
  rw [show rn false (n * one) = fw n from rfl] at F1
  rw [show rn false (a * one) = fw a from rfl] at F2
  generalize fw n = x at *
  generalize fw a = y at *
  go_enter Tryz.func70, Tryz.ntmps70
  go_wp2_with fail
  refine F1.out.mono ?_
  rintro e w' ⟨rfl, rfl⟩
  go_wp2_with fail
  refine F2.out.mono ?_
  rintro e w' ⟨rfl, rfl⟩
  go_wp2
  go_ret
  exact ⟨rfl, k, rfl⟩
theorem rdepth_at11 (n a : Int) (w : World) (n2 : n ≤ 9223372036854775807) (a2 : a ≤ 9223372036854775807) :
    Calls Tryz.prog 70 #[.int .i64 n, .int .i64 a] w fun e w' => e = .returned (.float .f64 (dpB n a)) ∧ ∃ k, w' = w.drewN k := by
  by_cases c : n < 1 ∨ a < 1
  · rw [dp_zero c]
    exact (rdepth_no11 n a w c).mono fun _ _ h => ⟨h.1, 0, h.2⟩
  · exact rdepth_yes11 n a w (by omega) (by omega) n2 a2
theorem rlevel_at11 (b : Nat) (n a : Int) (w : World) (hb : b < 18446744073709551616) (n2 : n ≤ 9223372036854775807) (a2 : a ≤ 9223372036854775807) :
    Calls Tryz.prog 67 #[.float .f64 b, .int .i64 n, .int .i64 a] w fun e w' => e = .returned (.float .f64 (lvl b n a)) ∧ ∃ k, w' = w.drewN k := by
  have D := hid (rdepth_at11 n a w n2 a2)
  have e0 : lvl b n a = addB b (dpB n a) := rfl
  rw [e0]
  have hd : dpB n a < 18446744073709551616 := by have := dp_le n2 a2; omega
  clear e0
  generalize dpB n a = d at *
  have AD : Hid (∀ k : Nat, ∃ r m, (∀ t, (binOp .add t (.float .f64 b) (.float .f64 d)).run Tryz.prog (w.drewN k) = .ok (.float .f64 r) ((w.drewN k).drewN m)) ∧ IsC r (addB b d)) := fun k => add_can _ b d hb hd
  generalize addB b d = y at *
  go_enter Tryz.func67, Tryz.ntmps67
  go_wp2_with fail
  refine D.out.mono ?_
  rintro e w' ⟨rfl, k, rfl⟩
  obtain ⟨r, m, hr, hc⟩ := AD.out k
  have C := hid (refCanon_any r (w.drewN (k + m)))
  rw [hc.2] at C
  go_wp2_with fail
  refine C.out.mono ?_
  rintro e w' ⟨rfl, rfl⟩
  go_wp2
  go_ret
  exact ⟨rfl, k + m, rfl⟩
end Go.Proofs.YtgalgnjgpmcngaaGreatDoor

namespace Go.Proofs.YtgalgnjgpmcngaaGreatDoor
open Go.RowKit Tf Cu Go.Deep
/-- a list of the call's own, of so many whole numbers -/
def OwnI (B : Nat) (v : Value) (l : List Int) (w : World) : Prop := w.ownsRow B 2 1 v l.length (l.map (Value.int .i64))
theorem OwnI.in {B : Nat} {v : Value} {l : List Int} {w : World} (h : OwnI B v l w) (hl : ∀ x ∈ l, -9223372036854775808 ≤ x ∧ x ≤ 9223372036854775807) : ∃ a0 cap, v = .slice a0 l.length cap ∧ IsIn w a0 l.length (fun j => l.getD j 0) := by
  rcases h.2 with ⟨rfl, h0⟩ | ⟨g, cap, cur, rfl, hb, hg, h1, h2, h3, h4⟩
  · exact ⟨none, 0, by rw [h0], fun k hk => by omega⟩
  · refine ⟨some ⟨g, 0, none⟩, cap, rfl, fun k hk => ?_⟩
    have hx : l.getD k 0 = l[k] := by simp [List.getD, hk]
    refine ⟨by dsimp only; rw [hx]; exact hl _ (List.getElem_mem _), g, 0, rfl, lt_of_block hg, ?_⟩
    have e := h.cells (g := g) rfl k (.int .i64 (l.getD k 0)) (by simp [hk])
    rw [add_off12] at e
    exact e
theorem OwnI.to {B : Nat} {v : Value} {l : List Int} {w w' : World} (h : OwnI B v l w) (hb : Ab w w') : OwnI B v l w' := by
  refine ⟨h.1, ?_⟩
  rcases h.2 with h0 | ⟨g, cap, cur, e, hb', hg, h1, h2, h3, h4⟩
  · exact .inl h0
  · exact .inr ⟨g, cap, cur, e, hb', hb.heap hg, h1, h2, h3, h4⟩
theorem OwnI.pushed {v : Value} {l : List Int} {w0 wr w' : World} {x : Int} {g c : Nat} {O : Obj} (hv : OwnI w0.heap.size v l wr) (hb : Ab w0 wr)
    (o : w'.ownsRow w0.heap.size 2 1 (.slice (some ⟨g, 0, none⟩) (l.length + 1) c) (l.length + 1) (l.map (Value.int .i64) ++ [.int .i64 x])) (hg : (wr.alloc O).grownBy w' v.ownBlock) :
    OwnI w0.heap.size (.slice (some ⟨g, 0, none⟩) (l.length + 1) c) (l ++ [x]) w' ∧ Ab w0 w' := by
  refine ⟨?_, ?_⟩
  · unfold OwnI
    rw [List.length_append, List.map_append]
    exact o
  · refine ((bl1 wr O |> Ab.trans hb : Below _ _ _)).grown hg (by have := hb.size; simp; omega) (fun k hk => ?_)
    exact (World.ownsRow.lt hv k hk).1
end Go.Proofs.YtgalgnjgpmcngaaGreatDoor

namespace Go.Proofs.YtgalgnjgpmcngaaGreatDoor
open Go.RowKit Tf Cu
attribute [local go_sem] run_bits run_from raw_feq raw_fne raw_flt raw_fgt run_neg run_store_float
set_option maxRecDepth 100000 in
set_option maxHeartbeats 8000000 in
theorem rfits13_at (gb : Nat) (pb pw pt ps : Option Addr) (lb cb lw cw lt ct ls cs : Nat) (sky st : Int) (M N : Nat) (q : Bool) (w : World)
    (hq : (((lb : Int) == (M : Int)) = false ∧ q = false) ∨ (((lb : Int) == (M : Int)) = true ∧ ((lw : Int) == (M : Int)) = false ∧ q = false) ∨ (((lb : Int) == (M : Int)) = true ∧ ((lw : Int) == (M : Int)) = true ∧ ((lt : Int) == (M : Int)) = false ∧ q = false) ∨ (((lb : Int) == (M : Int)) = true ∧ ((lw : Int) == (M : Int)) = true ∧ ((lt : Int) == (M : Int)) = true ∧ ((ls : Int) == (N : Int)) = q))
    (CC : Hid (∀ v, Ab w v → Calls Tryz.prog 66 #[(.pointer (some ⟨gb, 0, none⟩))] v fun e w' => e = .returned (.int .i64 (M : Nat)) ∧ Below v.heap.size v w'))
    (CE : Hid (∀ v, Ab w v → Calls Tryz.prog 36 #[(.pointer (some ⟨gb, 0, none⟩))] v fun e w' => e = .returned (.int .i64 (N : Nat)) ∧ Below v.heap.size v w')) :
    Calls Tryz.prog 35 #[(.pointer (some ⟨gb, 0, none⟩)), .agg #[.slice pb lb cb, .slice pw lw cw, .slice pt lt ct, .slice ps ls cs, .int .i64 sky, .int .i64 st]] w fun e w' => e = .returned (.bool q) ∧ Below w.heap.size w w' := by
  have A0 : Hid (Ab w (w.alloc (.cells #[.slice pb lb cb, .slice pw lw cw, .slice pt lt ct, .slice ps ls cs, .int .i64 sky, .int .i64 st] 29))) := bl1 _ _
  have RO : Hid ((w.alloc (.cells #[.slice pb lb cb, .slice pw lw cw, .slice pt lt ct, .slice ps ls cs, .int .i64 sky, .int .i64 st] 29)).heap[w.heap.size]? = some (.cells #[.slice pb lb cb, .slice pw lw cw, .slice pt lt ct, .slice ps ls cs, .int .i64 sky, .int .i64 st] 29)) := heap_alloc_new _ _
  go_enter Tryz.func35, Tryz.ntmps35
  go_wp2_with fail
  refine (CC.out _ A0.out).mono ?_
  rintro e9 v1 ⟨rfl, b1⟩
  have A1 : Hid (Ab w v1) := A0.out.call b1
  have R1 : Hid (v1.heap[w.heap.size]? = some (.cells #[.slice pb lb cb, .slice pw lw cw, .slice pt lt ct, .slice ps ls cs, .int .i64 sky, .int .i64 st] 29)) := Ab.heap b1 RO.out
  clear b1 A0 RO
  go_upto_region 2 with fail
  obtain ⟨gs, hgs⟩ : ∃ g, w.heap.size = g := ⟨_, rfl⟩
  rw [hgs] at R1 ⊢
  clear hgs
  rcases hq with ⟨q1, rfl⟩ | ⟨q1, q2, rfl⟩ | ⟨q1, q2, q3, rfl⟩ | ⟨q1, q2, q3, q4⟩
  · obtain ⟨UU, E, hF1, hF2⟩ := cls v1
    have HU := hid hF2
    have HU1 := hid hF1
    have HX : Hid (∀ u, Ab w (E u)) := fun u => Ab.trans A1.out (hF1 u)
    have s0 : ∀ u, (E u).cell? ⟨gs, 0, none⟩ = some (.slice pb lb cb) := fun u => cell_of_row _ _ 0 _ _ _ ((hF1 u).heap R1.out)
    have s1 : ∀ u, (E u).cell? ⟨gs, 1, none⟩ = some (.slice pw lw cw) := fun u => cell_of_row _ _ 1 _ _ _ ((hF1 u).heap R1.out)
    have s2 : ∀ u, (E u).cell? ⟨gs, 2, none⟩ = some (.slice pt lt ct) := fun u => cell_of_row _ _ 2 _ _ _ ((hF1 u).heap R1.out)
    have s3 : ∀ u, (E u).cell? ⟨gs, 3, none⟩ = some (.slice ps ls cs) := fun u => cell_of_row _ _ 3 _ _ _ ((hF1 u).heap R1.out)
    have DD0 := HU.out _ (Ab.refl v1).drew
    clear hF1 hF2
    refine region_cls E (by kernel_rfl) (by kernel_rfl) DD0 ?_
    repeat (go_big_quiet_step (first
      | (with_reducible rfl)
      | (go_at_call 36; exact calls_cls HU HU1 (CE.out _ (HX.out _)))))
    refine wpQuiet_nil ?_
    intro z hwz
    obtain ⟨u0, hu⟩ := hwz
    have AZ : Hid (Ab w z) := by rw [hu]; exact HX.out u0
    clear hu u0
    clear HU HU1 HX DD0 s0 s1 s2 s3
    clear E UU
    go_wp2
    go_ret
    exact ⟨rfl, AZ.out⟩
  · obtain ⟨UU, E, hF1, hF2⟩ := cls v1
    have HU := hid hF2
    have HU1 := hid hF1
    have HX : Hid (∀ u, Ab w (E u)) := fun u => Ab.trans A1.out (hF1 u)
    have s0 : ∀ u, (E u).cell? ⟨gs, 0, none⟩ = some (.slice pb lb cb) := fun u => cell_of_row _ _ 0 _ _ _ ((hF1 u).heap R1.out)
    have s1 : ∀ u, (E u).cell? ⟨gs, 1, none⟩ = some (.slice pw lw cw) := fun u => cell_of_row _ _ 1 _ _ _ ((hF1 u).heap R1.out)
    have s2 : ∀ u, (E u).cell? ⟨gs, 2, none⟩ = some (.slice pt lt ct) := fun u => cell_of_row _ _ 2 _ _ _ ((hF1 u).heap R1.out)
    have s3 : ∀ u, (E u).cell? ⟨gs, 3, none⟩ = some (.slice ps ls cs) := fun u => cell_of_row _ _ 3 _ _ _ ((hF1 u).heap R1.out)
    have DD0 := HU.out _ (Ab.refl v1).drew
    clear hF1 hF2
    refine region_cls E (by kernel_rfl) (by kernel_rfl) DD0 ?_
    repeat (go_big_quiet_step (first
      | (with_reducible rfl)
      | (go_at_call 36; exact calls_cls HU HU1 (CE.out _ (HX.out _)))))
    refine wpQuiet_nil ?_
    intro z hwz
    obtain ⟨u0, hu⟩ := hwz
    have AZ : Hid (Ab w z) := by rw [hu]; exact HX.out u0
    clear hu u0
    clear HU HU1 HX DD0 s0 s1 s2 s3
    clear E UU
    go_wp2
    go_ret
    exact ⟨rfl, AZ.out⟩
  · obtain ⟨UU, E, hF1, hF2⟩ := cls v1
    have HU := hid hF2
    have HU1 := hid hF1
    have HX : Hid (∀ u, Ab w (E u)) := fun u => Ab.trans A1.out (hF1 u)
    have s0 : ∀ u, (E u).cell? ⟨gs, 0, none⟩ = some (.slice pb lb cb) := fun u => cell_of_row _ _ 0 _ _ _ ((hF1 u).heap R1.out)
    have s1 : ∀ u, (E u).cell? ⟨gs, 1, none⟩ = some (.slice pw lw cw) := fun u => cell_of_row _ _ 1 _ _ _ ((hF1 u).heap R1.out)
    have s2 : ∀ u, (E u).cell? ⟨gs, 2, none⟩ = some (.slice pt lt ct) := fun u => cell_of_row _ _ 2 _ _ _ ((hF1 u).heap R1.out)
    have s3 : ∀ u, (E u).cell? ⟨gs, 3, none⟩ = some (.slice ps ls cs) := fun u => cell_of_row _ _ 3 _ _ _ ((hF1 u).heap R1.out)
    have DD0 := HU.out _ (Ab.refl v1).drew
    clear hF1 hF2
    refine region_cls E (by kernel_rfl) (by kernel_rfl) DD0 ?_
    repeat (go_big_quiet_step (first
      | (with_reducible rfl)
      | (go_at_call 36; exact calls_cls HU HU1 (CE.out _ (HX.out _)))))
    refine wpQuiet_nil ?_
    intro z hwz
    obtain ⟨u0, hu⟩ := hwz
    have AZ : Hid (Ab w z) := by rw [hu]; exact HX.out u0
    clear hu u0
    clear HU HU1 HX DD0 s0 s1 s2 s3
    clear E UU
    go_wp2
    go_ret
    exact ⟨rfl, AZ.out⟩
  · obtain ⟨UU, E, hF1, hF2⟩ := cls v1
    have HU := hid hF2
    have HU1 := hid hF1
    have HX : Hid (∀ u, Ab w (E u)) := fun u => Ab.trans A1.out (hF1 u)
    have s0 : ∀ u, (E u).cell? ⟨gs, 0, none⟩ = some (.slice pb lb cb) := fun u => cell_of_row _ _ 0 _ _ _ ((hF1 u).heap R1.out)
    have s1 : ∀ u, (E u).cell? ⟨gs, 1, none⟩ = some (.slice pw lw cw) := fun u => cell_of_row _ _ 1 _ _ _ ((hF1 u).heap R1.out)
    have s2 : ∀ u, (E u).cell? ⟨gs, 2, none⟩ = some (.slice pt lt ct) := fun u => cell_of_row _ _ 2 _ _ _ ((hF1 u).heap R1.out)
    have s3 : ∀ u, (E u).cell? ⟨gs, 3, none⟩ = some (.slice ps ls cs) := fun u => cell_of_row _ _ 3 _ _ _ ((hF1 u).heap R1.out)
    have DD0 := HU.out _ (Ab.refl v1).drew
    clear hF1 hF2
    refine region_cls E (by kernel_rfl) (by kernel_rfl) DD0 ?_
    repeat (go_big_quiet_step (first
      | (with_reducible rfl)
      | (go_at_call 36; exact calls_cls HU HU1 (CE.out _ (HX.out _)))))
    refine wpQuiet_nil ?_
    intro z hwz
    obtain ⟨u0, hu⟩ := hwz
    have AZ : Hid (Ab w z) := by rw [hu]; exact HX.out u0
    clear hu u0
    clear HU HU1 HX DD0 s0 s1 s2 s3
    clear E UU
    go_wp2
    go_ret
    exact ⟨rfl, AZ.out⟩
end Go.Proofs.YtgalgnjgpmcngaaGreatDoor
