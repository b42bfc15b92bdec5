/-
  Water between cells and sky: by plain whole numbers (layer 18, no program).
-/
import Derived.Test.YthcgbjkbnbeobaaUa
namespace Go.Proofs.Ythcgbjkbnbeobaa
namespace Rn
open Sh
/-- how much comes down -/
def dn (a s x : Int) : Int := if a < 0 then -(if x < -a then x else -a) else (if s < a then s else a)
/-- whether a rain falls in a step -/
def fallB (st : Int) (r : Int × Int × Int × Int) : Bool := decide (r.2.2.1 ≤ st) && decide (st < r.2.2.2)
/-- one rain -/
def rn1 (st : Int) (r : Int × Int × Int × Int) (X : (Nat → Int) × Int) : (Nat → Int) × Int :=
  if fallB st r = true then (fun i => if i = r.1.toNat then X.1 i + dn r.2.1 X.2 (X.1 r.1.toNat) else X.1 i, X.2 - dn r.2.1 X.2 (X.1 r.1.toNat)) else X
/-- the first k rains -/
def rnN (st : Int) (R : Nat → Int × Int × Int × Int) (X : (Nat → Int) × Int) : Nat → (Nat → Int) × Int
  | 0 => X
  | k + 1 => rn1 st (R k) (rnN st R X k)
/-- a list of rains -/
def rnL (st : Int) (l : List (Int × Int × Int × Int)) (X : (Nat → Int) × Int) : (Nat → Int) × Int := l.foldl (fun Y r => rn1 st r Y) X
/-- whether a rain can be -/
def okR (n : Nat) (r : Int × Int × Int × Int) : Prop := 0 ≤ r.1 ∧ r.1 < n ∧ -4503599627370496 ≤ r.2.1 ∧ r.2.1 ≤ 4503599627370496 ∧ 0 ≤ r.2.2.1 ∧ r.2.2.1 ≤ r.2.2.2
/-- whether a weather can be -/
def good18 (lw : Nat) (W : Nat → Int) (s : Int) (lr : Nat) (R : Nat → Int × Int × Int × Int) (st : Int) : Prop :=
  0 ≤ st ∧ (0 ≤ s ∧ s ≤ 4503599627370496) ∧ lr ≤ 1024 ∧ (∀ i, i < lw → 0 ≤ W i ∧ W i ≤ 4503599627370496) ∧ ∀ k, k < lr → okR lw (R k)
theorem dn_in {a s x : Int} (hs : 0 ≤ s) (hx : 0 ≤ x) : -x ≤ dn a s x ∧ dn a s x ≤ s := by
  unfold dn
  split <;> split <;> omega
theorem dn_bd {a s x m : Int} (hs : 0 ≤ s) (hx : 0 ≤ x) (h : -m ≤ a ∧ a ≤ m) : -m ≤ dn a s x ∧ dn a s x ≤ m := by
  unfold dn
  split <;> split <;> omega
section
variable {st : Int} {R : Nat → Int × Int × Int × Int} {X : (Nat → Int) × Int} {n : Nat} {r : Int × Int × Int × Int}
theorem rn1_no (h : fallB st r = false) : rn1 st r X = X := by unfold rn1; rw [if_neg (by rw [h]; decide)]
theorem rn1_nn (ho : okR n r) (hX : (∀ i, i < n → 0 ≤ X.1 i) ∧ 0 ≤ X.2) : (∀ i, i < n → 0 ≤ (rn1 st r X).1 i) ∧ 0 ≤ (rn1 st r X).2 := by
  unfold rn1
  split
  · have hc : r.1.toNat < n := by have := ho.1; have := ho.2.1; omega
    have d := dn_in (a := r.2.1) hX.2 (hX.1 _ hc)
    refine ⟨fun i hi => ?_, ?_⟩
    · dsimp only
      split
      · rename_i e; subst e; omega
      · exact hX.1 i hi
    · dsimp only
      omega
  · exact hX
theorem rnN_nn (hX : (∀ i, i < n → 0 ≤ X.1 i) ∧ 0 ≤ X.2) : ∀ {k : Nat}, (∀ j, j < k → okR n (R j)) → (∀ i, i < n → 0 ≤ (rnN st R X k).1 i) ∧ 0 ≤ (rnN st R X k).2
  | 0, _ => hX
  | k + 1, ho => rn1_nn (ho k (by omega)) (rnN_nn hX (fun j hj => ho j (by omega)))
/-- how much they have at most -/
theorem rnN_le {B : Int} (hX : (∀ i, i < n → 0 ≤ X.1 i) ∧ 0 ≤ X.2) (hB : (∀ i, i < n → X.1 i ≤ B) ∧ X.2 ≤ B) : ∀ {k : Nat}, (∀ j, j < k → okR n (R j)) → (∀ i, i < n → (rnN st R X k).1 i ≤ B + 4503599627370496 * k) ∧ (rnN st R X k).2 ≤ B + 4503599627370496 * k
  | 0, _ => ⟨fun i hi => by show X.1 i ≤ _; have := hB.1 i hi; omega, by show X.2 ≤ _; have := hB.2; omega⟩
  | k + 1, ho => by
    obtain ⟨h1, h2⟩ := rnN_le hX hB (k := k) (fun j hj => ho j (by omega))
    obtain ⟨p1, p2⟩ := rnN_nn (st := st) hX (k := k) (fun j hj => ho j (by omega))
    have o := ho k (by omega)
    show (∀ i, i < n → (rn1 st (R k) (rnN st R X k)).1 i ≤ _) ∧ (rn1 st (R k) (rnN st R X k)).2 ≤ _
    have e : (4503599627370496 : Int) * ((k + 1 : Nat) : Int) = 4503599627370496 * k + 4503599627370496 := by omega
    rw [e]
    generalize rnN st R X k = Y at *
    unfold rn1
    split
    · have hc : (R k).1.toNat < n := by have := o.1; have := o.2.1; omega
      have d := dn_bd (a := (R k).2.1) (m := 4503599627370496) p2 (p1 _ hc) ⟨o.2.2.1, o.2.2.2.1⟩
      refine ⟨fun i hi => ?_, ?_⟩
      · dsimp only
        have := h1 i hi
        split
        · rename_i q; subst q; omega
        · omega
      · dsimp only
        omega
    · exact ⟨fun i hi => by have := h1 i hi; omega, by omega⟩
theorem sumN_upd (f : Nat → Int) (c : Nat) (d : Int) : ∀ n, sumN (fun i => if i = c then f i + d else f i) n = sumN f n + if c < n then d else 0
  | 0 => by
    show (0 : Int) = 0 + if c < 0 then d else 0
    rw [if_neg (by omega)]
    rfl
  | n + 1 => by
    show sumN (fun i => if i = c then f i + d else f i) n + (if n = c then f n + d else f n) = sumN f n + f n + if c < n + 1 then d else 0
    rw [sumN_upd f c d n]
    by_cases e : n = c
    · subst e
      rw [if_pos rfl, if_neg (by omega), if_pos (by omega)]
      omega
    · rw [if_neg e]
      by_cases l : c < n
      · rw [if_pos l, if_pos (by omega)]
        omega
      · rw [if_neg l, if_neg (by omega)]
        omega
/-- cells and sky together have as much as before -/
theorem rn1_kept (ho : okR n r) : sumN (rn1 st r X).1 n + (rn1 st r X).2 = sumN X.1 n + X.2 := by
  unfold rn1
  split
  · have hc : r.1.toNat < n := by have := ho.1; have := ho.2.1; omega
    dsimp only
    rw [sumN_upd, if_pos hc]
    omega
  · rfl
theorem rnN_kept : ∀ {k : Nat}, (∀ j, j < k → okR n (R j)) → sumN (rnN st R X k).1 n + (rnN st R X k).2 = sumN X.1 n + X.2
  | 0, _ => rfl
  | k + 1, ho => (rn1_kept (ho k (by omega))).trans (rnN_kept (fun j hj => ho j (by omega)))
theorem rnN_list : ∀ k : Nat, rnN st R X k = rnL st ((List.range k).map R) X
  | 0 => rfl
  | k + 1 => by
    show rn1 st (R k) (rnN st R X k) = _
    rw [rnN_list k, List.range_succ, List.map_append]
    unfold rnL
    rw [List.foldl_append]
    rfl
/-- a row in two parts -/
theorem rnN_add (j k : Nat) : rnN st R X (j + k) = rnN st (fun i => R (j + i)) (rnN st R X j) k := by
  induction k with
  | zero => rfl
  | succ k ih =>
    show rn1 st (R (j + k)) (rnN st R X (j + k)) = rn1 st (R (j + k)) (rnN st (fun i => R (j + i)) (rnN st R X j) k)
    rw [ih]
/-- rains that don't fall could as well not be there -/
theorem rnL_filter (l : List (Int × Int × Int × Int)) : ∀ X, rnL st (l.filter (fallB st)) X = rnL st l X := by
  induction l with
  | nil => intro X; rfl
  | cons r l ih =>
    intro X
    cases c : fallB st r
    · rw [List.filter_cons_of_neg (by rw [c]; decide), ih]
      show rnL st l X = rnL st l (rn1 st r X)
      rw [rn1_no c]
    · rw [List.filter_cons_of_pos c]
      show rnL st (l.filter (fallB st)) (rn1 st r X) = rnL st l (rn1 st r X)
      exact ih _
/-- what hangs on the cells that there are alone -/
theorem rn1_same {Y : (Nat → Int) × Int} (ho : okR n r) (h : (∀ i, i < n → X.1 i = Y.1 i) ∧ X.2 = Y.2) : (∀ i, i < n → (rn1 st r X).1 i = (rn1 st r Y).1 i) ∧ (rn1 st r X).2 = (rn1 st r Y).2 := by
  have hc : r.1.toNat < n := by have := ho.1; have := ho.2.1; omega
  unfold rn1
  split
  · refine ⟨fun i hi => ?_, ?_⟩
    · dsimp only
      rw [h.1 i hi, h.2, h.1 _ hc]
    · dsimp only
      rw [h.2, h.1 _ hc]
  · exact h
theorem rnN_same {Y : (Nat → Int) × Int} (h : (∀ i, i < n → X.1 i = Y.1 i) ∧ X.2 = Y.2) : ∀ {k : Nat}, (∀ j, j < k → okR n (R j)) → (∀ i, i < n → (rnN st R X k).1 i = (rnN st R Y k).1 i) ∧ (rnN st R X k).2 = (rnN st R Y k).2
  | 0, _ => h
  | k + 1, ho => rn1_same (ho k (by omega)) (rnN_same h (fun j hj => ho j (by omega)))
theorem rnN_congr {Q : Nat → Int × Int × Int × Int} : ∀ {k : Nat}, (∀ j, j < k → R j = Q j) → rnN st R X k = rnN st Q X k
  | 0, _ => rfl
  | k + 1, h => by
    show rn1 st (R k) (rnN st R X k) = rn1 st (Q k) (rnN st Q X k)
    rw [h k (by omega), rnN_congr (fun j hj => h j (by omega))]
/-- one rain alone -/
theorem one_down {a s x : Int} (ha : 0 ≤ a) : (dn a s x = a ∧ dn a s x ≤ s) ∨ (dn a s x = s ∧ s < a) := by
  unfold dn
  rw [if_neg (by omega)]
  split <;> omega
theorem one_up {a s x : Int} (ha : a < 0) : (dn a s x = a ∧ 0 ≤ x + dn a s x) ∨ (dn a s x = -x ∧ x < -a) := by
  unfold dn
  rw [if_pos ha]
  split <;> omega
theorem good18_ok {lw lr : Nat} {W : Nat → Int} {s : Int} (g : good18 lw W s lr R st) : (∀ i, i < lw → 0 ≤ (rnN st R (W, s) lr).1 i ∧ (rnN st R (W, s) lr).1 i ≤ 4616189618054758400) ∧ 0 ≤ (rnN st R (W, s) lr).2 ∧ (rnN st R (W, s) lr).2 ≤ 4616189618054758400 := by
  obtain ⟨_, gs, gl, gw, gr⟩ := g
  have a := rnN_nn (st := st) (R := R) (X := (W, s)) (n := lw) (k := lr) ⟨fun i hi => (gw i hi).1, gs.1⟩ gr
  have b := rnN_le (st := st) (R := R) (X := (W, s)) (n := lw) (k := lr) (B := 4503599627370496) ⟨fun i hi => (gw i hi).1, gs.1⟩ ⟨fun i hi => (gw i hi).2, gs.2⟩ gr
  exact ⟨fun i hi => ⟨a.1 i hi, by have := b.1 i hi; omega⟩, a.2, by have := b.2; omega⟩
end
end Rn
end Go.Proofs.Ythcgbjkbnbeobaa
