/-
  Sums in stated orders, by plain numbers (no program).
-/
import Derived.Test.YtgbaaafikphafaaTc
namespace Go.Proofs.Ytgbaaafikphafaa
open Tf

/-- a NaN as the one -/
def qB (x : Nat) : Nat := if isN x = true then quiet else x
/-- one addition, a NaN as the one -/
def plB (a b : Nat) : Nat := match Ieee.double.add a b with | some r => r | none => quiet
theorem plB_some {a b r : Nat} (h : Ieee.double.add a b = some r) : plB a b = r := by unfold plB; rw [h]
theorem plB_none {a b : Nat} (h : Ieee.double.add a b = none) : plB a b = quiet := by unfold plB; rw [h]
theorem quiet_N : isN quiet = true := by decide
theorem qB_of {x : Nat} (h : isN x = false) : qB x = x := by unfold qB; rw [h]; rfl
theorem qB_N {x : Nat} (h : isN x = true) : qB x = quiet := by unfold qB; rw [h]; rfl
theorem qB_lt {x : Nat} (h : x < 18446744073709551616) : qB x < 18446744073709551616 := by
  unfold qB; split
  · exact quiet_lt
  · exact h
theorem qB_isN (x : Nat) : isN (qB x) = isN x := by
  cases h : isN x
  · rw [qB_of h, h]
  · rw [qB_N h, quiet_N]
theorem qB_qB (x : Nat) : qB (qB x) = qB x := by
  cases h : isN x
  · rw [qB_of h, qB_of h]
  · rw [qB_N h]; decide
theorem add_facts {a b r : Nat} (ha : a < 18446744073709551616) (hb : b < 18446744073709551616) (h : Ieee.double.add a b = some r) : r < 18446744073709551616 ∧ isN r = false := by
  rcases add_cases a b ha hb with ⟨h1, h2⟩ | h' | ⟨s, h'⟩
  · rw [add_d a b ha hb h1 h2] at h; obtain rfl := Option.some.inj h; exact ⟨rn_lt _ _, isN_rn _ _⟩
  · rw [h'] at h; cases h
  · rw [h'] at h; obtain rfl := Option.some.inj h; exact ⟨infW_lt s, by cases s <;> decide⟩
theorem plB_lt {a b : Nat} (ha : a < 18446744073709551616) (hb : b < 18446744073709551616) : plB a b < 18446744073709551616 := by
  unfold plB
  cases h : Ieee.double.add a b with
  | none => exact quiet_lt
  | some r => exact (add_facts ha hb h).1
theorem qB_plB {a b : Nat} (ha : a < 18446744073709551616) (hb : b < 18446744073709551616) : qB (plB a b) = plB a b := by
  unfold plB
  cases h : Ieee.double.add a b with
  | none => decide
  | some r => exact qB_of (add_facts ha hb h).2
theorem add_ql (a b : Nat) : Ieee.double.add (qB a) b = Ieee.double.add a b := by
  cases h : isN a
  · rw [qB_of h]
  · rw [qB_N h, add_nan a b (.inl h), add_nan quiet b (.inl quiet_N)]
theorem add_qr (a b : Nat) : Ieee.double.add a (qB b) = Ieee.double.add a b := by
  cases h : isN b
  · rw [qB_of h]
  · rw [qB_N h, add_nan a b (.inr h), add_nan a quiet (.inr quiet_N)]
theorem plB_ql (a b : Nat) : plB (qB a) b = plB a b := by unfold plB; rw [add_ql]
theorem plB_qr (a b : Nat) : plB a (qB b) = plB a b := by unfold plB; rw [add_qr]
/-- a value that stands for a number, whichever NaN it is -/
def IsQ (s q : Nat) : Prop := s < 18446744073709551616 ∧ qB s = q
theorem IsQ.self {x : Nat} (h : x < 18446744073709551616) : IsQ x (qB x) := ⟨h, rfl⟩
theorem IsQ.lt {s q : Nat} (h : IsQ s q) : q < 18446744073709551616 := by rw [← h.2]; exact qB_lt h.1
theorem IsQ.add {s q x y r : Nat} (h : IsQ s q) (k : IsQ x y) (e : Ieee.double.add s x = some r) : IsQ r (plB q y) := by
  refine ⟨(add_facts h.1 k.1 e).1, ?_⟩
  rw [← h.2, ← k.2, plB_ql, plB_qr, plB_some e, qB_of (add_facts h.1 k.1 e).2]
theorem IsQ.nan {s q x y n : Nat} (h : IsQ s q) (k : IsQ x y) (e : Ieee.double.add s x = none) (n1 : n < 18446744073709551616) (n2 : isN n = true) : IsQ n (plB q y) := by
  refine ⟨n1, ?_⟩
  rw [← h.2, ← k.2, plB_ql, plB_qr, plB_none e, qB_N n2]

/-- from the left: the first k + 1 -/
def lfF (xs : Nat → Nat) : Nat → Nat
  | 0 => qB (xs 0)
  | k + 1 => plB (lfF xs k) (xs (k + 1))
def leftB (xs : Nat → Nat) (n : Nat) : Nat := if n = 0 then 0 else lfF xs (n - 1)
theorem lfF_lt (xs : Nat → Nat) (k : Nat) (h : ∀ j, j ≤ k → xs j < 18446744073709551616) : lfF xs k < 18446744073709551616 := by
  induction k with
  | zero => exact qB_lt (h 0 (Nat.le_refl _))
  | succ k ih => exact plB_lt (ih (fun j hj => h j (by omega))) (h _ (Nat.le_refl _))
theorem lfF_q (xs : Nat → Nat) (k : Nat) (h : ∀ j, j ≤ k → xs j < 18446744073709551616) : qB (lfF xs k) = lfF xs k := by
  cases k with
  | zero => exact qB_qB _
  | succ k => exact qB_plB (lfF_lt xs k (fun j hj => h j (by omega))) (h _ (Nat.le_refl _))
theorem lfF_congr (xs ys : Nat → Nat) (k : Nat) (h : ∀ j, j ≤ k → xs j = ys j) : lfF xs k = lfF ys k := by
  induction k with
  | zero => show qB (xs 0) = qB (ys 0); rw [h 0 (Nat.le_refl _)]
  | succ k ih => show plB _ (xs (k + 1)) = plB _ (ys (k + 1)); rw [ih (fun j hj => h j (by omega)), h _ (Nat.le_refl _)]
theorem leftB_congr (xs ys : Nat → Nat) (n : Nat) (h : ∀ j, j < n → xs j = ys j) : leftB xs n = leftB ys n := by
  unfold leftB
  split
  · rfl
  · exact lfF_congr xs ys _ (fun j hj => h j (by omega))
theorem leftB_lt (xs : Nat → Nat) (n : Nat) (h : ∀ j, j < n → xs j < 18446744073709551616) : leftB xs n < 18446744073709551616 := by
  unfold leftB
  split
  · decide
  · exact lfF_lt xs _ (fun j hj => h j (by omega))
theorem leftB_q (xs : Nat → Nat) (n : Nat) (h : ∀ j, j < n → xs j < 18446744073709551616) : qB (leftB xs n) = leftB xs n := by
  unfold leftB
  split
  · decide
  · exact lfF_q xs _ (fun j hj => h j (by omega))
/-- by pairs: of n numbers from place o on -/
def prF (xs : Nat → Nat) : Nat → Nat → Nat → Nat
  | 0, _, _ => 0
  | f + 1, o, n => if n = 0 then 0 else if n = 1 then qB (xs o) else plB (prF xs f o ((n + 1) / 2)) (prF xs f (o + (n + 1) / 2) (n - (n + 1) / 2))
theorem prF_zero (xs : Nat → Nat) (f o : Nat) : prF xs f o 0 = 0 := by
  cases f with
  | zero => rfl
  | succ f => show (if 0 = 0 then 0 else _) = 0; rw [if_pos rfl]
theorem prF_fuel (xs : Nat → Nat) : ∀ (f g o n : Nat), n ≤ f → n ≤ g → prF xs f o n = prF xs g o n := by
  intro f
  induction f with
  | zero =>
    intro g o n h _
    obtain rfl : n = 0 := by omega
    rw [prF_zero, prF_zero]
  | succ f ih =>
    intro g o n h1 h2
    by_cases h0 : n = 0
    · subst h0; rw [prF_zero, prF_zero]
    · obtain ⟨g', rfl⟩ : ∃ g', g = g' + 1 := ⟨g - 1, by omega⟩
      show (if n = 0 then 0 else if n = 1 then qB (xs o) else plB (prF xs f o ((n + 1) / 2)) (prF xs f (o + (n + 1) / 2) (n - (n + 1) / 2))) = (if n = 0 then 0 else if n = 1 then qB (xs o) else plB (prF xs g' o ((n + 1) / 2)) (prF xs g' (o + (n + 1) / 2) (n - (n + 1) / 2)))
      rw [if_neg h0, if_neg h0]
      by_cases h3 : n = 1
      · rw [if_pos h3, if_pos h3]
      · rw [if_neg h3, if_neg h3, ih g' o _ (by omega) (by omega), ih g' _ (n - (n + 1) / 2) (by omega) (by omega)]
def prB (xs : Nat → Nat) (o n : Nat) : Nat := prF xs n o n
theorem prB_zero (xs : Nat → Nat) (o : Nat) : prB xs o 0 = 0 := rfl
theorem prB_one (xs : Nat → Nat) (o : Nat) : prB xs o 1 = qB (xs o) := rfl
theorem prB_more (xs : Nat → Nat) (o n : Nat) (h : 2 ≤ n) : prB xs o n = plB (prB xs o ((n + 1) / 2)) (prB xs (o + (n + 1) / 2) (n - (n + 1) / 2)) := by
  obtain ⟨m, rfl⟩ : ∃ m, n = m + 1 := ⟨n - 1, by omega⟩
  unfold prB
  show (if m + 1 = 0 then 0 else if m + 1 = 1 then qB (xs o) else plB (prF xs m o ((m + 1 + 1) / 2)) (prF xs m (o + (m + 1 + 1) / 2) (m + 1 - (m + 1 + 1) / 2))) = _
  rw [if_neg (by omega), if_neg (by omega), prF_fuel xs m _ o ((m + 1 + 1) / 2) (by omega) (Nat.le_refl _), prF_fuel xs m _ (o + (m + 1 + 1) / 2) (m + 1 - (m + 1 + 1) / 2) (by omega) (Nat.le_refl _)]
theorem prB_lt (xs : Nat → Nat) : ∀ (n o : Nat), (∀ j, j < n → xs (o + j) < 18446744073709551616) → prB xs o n < 18446744073709551616 := by
  intro n
  induction n using Nat.strongRecOn with
  | ind n ih =>
    intro o h
    by_cases h0 : n = 0
    · subst h0; rw [prB_zero]; decide
    by_cases h1 : n = 1
    · subst h1; rw [prB_one]; exact qB_lt (h 0 (by omega))
    rw [prB_more xs o n (by omega)]
    exact plB_lt (ih _ (by omega) o (fun j hj => h j (by omega))) (ih _ (by omega) _ (fun j hj => by rw [Nat.add_assoc]; exact h _ (by omega)))
theorem prB_q (xs : Nat → Nat) (n o : Nat) (h : ∀ j, j < n → xs (o + j) < 18446744073709551616) : qB (prB xs o n) = prB xs o n := by
  by_cases h0 : n = 0
  · subst h0; rw [prB_zero]; decide
  by_cases h1 : n = 1
  · subst h1; rw [prB_one]; exact qB_qB _
  rw [prB_more xs o n (by omega)]
  exact qB_plB (prB_lt xs _ o (fun j hj => h j (by omega))) (prB_lt xs _ _ (fun j hj => by rw [Nat.add_assoc]; exact h _ (by omega)))
theorem prB_congr (xs ys : Nat → Nat) : ∀ (n o p : Nat), (∀ j, j < n → xs (o + j) = ys (p + j)) → prB xs o n = prB ys p n := by
  intro n
  induction n using Nat.strongRecOn with
  | ind n ih =>
    intro o p h
    by_cases h0 : n = 0
    · subst h0; rw [prB_zero, prB_zero]
    by_cases h1 : n = 1
    · subst h1; rw [prB_one, prB_one]; have := h 0 (by omega); rw [Nat.add_zero, Nat.add_zero] at this; rw [this]
    rw [prB_more xs o n (by omega), prB_more ys p n (by omega), ih _ (by omega) o p (fun j hj => h j (by omega)), ih _ (by omega) (o + (n + 1) / 2) (p + (n + 1) / 2) (fun j hj => by rw [Nat.add_assoc, Nat.add_assoc]; exact h _ (by omega))]
theorem prB_two (xs : Nat → Nat) (n : Nat) (h : n ≤ 2) : prB xs 0 n = leftB xs n := by
  by_cases h0 : n = 0
  · subst h0; rw [prB_zero]; rfl
  by_cases h1 : n = 1
  · subst h1; rw [prB_one]; rfl
  obtain rfl : n = 2 := by omega
  rw [prB_more xs 0 2 (by omega)]
  show plB (prB xs 0 1) (prB xs 1 1) = plB (qB (xs 0)) (xs 1)
  rw [prB_one, prB_one, plB_qr]
/-- carefully -/
def caS (xs : Nat → Nat) : Nat → Nat
  | 0 => 0
  | k + 1 => addB (caS xs k) (xs k)
def caC (xs : Nat → Nat) : Nat → Nat
  | 0 => 0
  | k + 1 => plB (caC xs k) (sumE (caS xs k) (xs k))
def careB (xs : Nat → Nat) (n : Nat) : Nat := plB (caS xs n) (caC xs n)
theorem caS_lt (xs : Nat → Nat) (k : Nat) (h : ∀ j, j < k → xs j < 18446744073709551616) : caS xs k < 18446744073709551616 := by
  induction k with
  | zero => show 0 < _; decide
  | succ k ih => exact addB_lt _ _ (ih (fun j hj => h j (by omega))) (h k (by omega))
theorem caC_lt (xs : Nat → Nat) (k : Nat) : caC xs k < 18446744073709551616 := by
  induction k with
  | zero => show 0 < _; decide
  | succ k ih => exact plB_lt ih (sumE_lt _ _)
theorem caC_q (xs : Nat → Nat) (k : Nat) : qB (caC xs k) = caC xs k := by
  cases k with
  | zero => show qB 0 = 0; decide
  | succ k => exact qB_plB (caC_lt xs k) (sumE_lt _ _)
theorem caS_congr (xs ys : Nat → Nat) (k : Nat) (h : ∀ j, j < k → xs j = ys j) : caS xs k = caS ys k := by
  induction k with
  | zero => rfl
  | succ k ih => show addB _ (xs k) = addB _ (ys k); rw [ih (fun j hj => h j (by omega)), h k (by omega)]
theorem caC_congr (xs ys : Nat → Nat) (k : Nat) (h : ∀ j, j < k → xs j = ys j) : caC xs k = caC ys k := by
  induction k with
  | zero => rfl
  | succ k ih => show plB _ (sumE _ (xs k)) = plB _ (sumE _ (ys k)); rw [ih (fun j hj => h j (by omega)), h k (by omega), caS_congr xs ys k (fun j hj => h j (by omega))]
theorem careB_congr (xs ys : Nat → Nat) (k : Nat) (h : ∀ j, j < k → xs j = ys j) : careB xs k = careB ys k := by
  unfold careB; rw [caS_congr xs ys k h, caC_congr xs ys k h]
theorem careB_lt (xs : Nat → Nat) (k : Nat) (h : ∀ j, j < k → xs j < 18446744073709551616) : careB xs k < 18446744073709551616 := plB_lt (caS_lt xs k h) (caC_lt xs k)
theorem careB_q (xs : Nat → Nat) (k : Nat) (h : ∀ j, j < k → xs j < 18446744073709551616) : qB (careB xs k) = careB xs k := qB_plB (caS_lt xs k h) (caC_lt xs k)
/-- three, the least magnitudes first -/
def key (x : Nat) : Nat := 2 * mg x + (if ng x then 0 else 1)
theorem key_inj {a b : Nat} (ha : a < 18446744073709551616) (hb : b < 18446744073709551616) (h : key a = key b) : a = b := by
  have h1 := word_eq a ha
  have h2 := word_eq b hb
  unfold key at h
  revert h1 h2 h
  cases ng a <;> cases ng b <;> simp <;> omega
def loB (a b : Nat) : Nat := if key b < key a then b else a
def hiB (a b : Nat) : Nat := if key b < key a then a else b
def thB (a b c : Nat) : Nat := plB (plB (loB (loB a b) (loB (hiB a b) c)) (hiB (loB a b) (loB (hiB a b) c))) (hiB (hiB a b) c)
theorem thB_12 {a b c : Nat} (ha : a < 18446744073709551616) (hb : b < 18446744073709551616) : thB a b c = thB b a c := by
  have e : loB a b = loB b a ∧ hiB a b = hiB b a := by
    unfold loB hiB
    by_cases h1 : key b < key a
    · rw [if_pos h1, if_neg (by omega), if_pos h1, if_neg (by omega)]; exact ⟨rfl, rfl⟩
    · by_cases h2 : key a < key b
      · rw [if_neg h1, if_pos h2, if_neg h1, if_pos h2]; exact ⟨rfl, rfl⟩
      · have : a = b := key_inj ha hb (by omega)
        subst this; exact ⟨rfl, rfl⟩
  unfold thB; rw [e.1, e.2]
end Go.Proofs.Ytgbaaafikphafaa
