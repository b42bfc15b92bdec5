/-
  The cube in whole numbers: straight on round it. No program here.
-/
import Derived.Test.YtmccbhidpjdkfaaDoorKt
namespace Go.Proofs.YtmccbhidpjdkfaaDoor.Cu
/-- in over one side and out over the opposite one, again and again -/
def rnd (n c s : Nat) : Nat → Nat × Nat
  | 0 => (c, s)
  | k + 1 => (bsC n (rnd n c s k).1 (rnd n c s k).2, (bsS n (rnd n c s k).1 (rnd n c s k).2 + 2) % 4)
/-- the faces that one goes through, with the way on each -/
def cyF (f s : Nat) : Nat → Nat
  | 0 => f
  | 1 => nf f s
  | 2 => nf (nf f s) (ns f s)
  | 3 => nf (nf (nf f s) (ns f s)) (ns (nf f s) (ns f s))
  | _ => f
def cyS (f s : Nat) : Nat → Nat
  | 0 => s
  | 1 => ns f s
  | 2 => ns (nf f s) (ns f s)
  | 3 => ns (nf (nf f s) (ns f s)) (ns (nf f s) (ns f s))
  | _ => s
theorem cy_lt : ∀ f < 6, ∀ s < 4, ∀ q < 5, cyF f s q < 6 ∧ cyS f s q < 4 := by decide +kernel
theorem cy_next : ∀ f < 6, ∀ s < 4, ∀ q < 4, nf (cyF f s q) (cyS f s q) = cyF f s (q + 1) ∧ ns (cyF f s q) (cyS f s q) = cyS f s (q + 1) := by decide +kernel
theorem cy_ne : ∀ f < 6, ∀ s < 4, ∀ q < 4, ∀ p < 4, cyF f s q = cyF f s p → q = p := by decide +kernel
theorem rnd_lt {n c s : Nat} (hn : 1 ≤ n) (hc : c < 6 * n * n) (hs : s < 4) (k : Nat) : (rnd n c s k).1 < 6 * n * n ∧ (rnd n c s k).2 < 4 := by
  induction k with
  | zero => exact ⟨hc, hs⟩
  | succ k ih => exact ⟨(bs_lt hn ih.1 ih.2).1, Nat.mod_lt _ (by omega)⟩
theorem div_step {n m : Nat} (hn : 1 ≤ n) : (m % n + 1 < n → (m + 1) / n = m / n ∧ (m + 1) % n = m % n + 1) ∧ (¬ m % n + 1 < n → (m + 1) / n = m / n + 1 ∧ (m + 1) % n = 0) := by
  have hd := Nat.div_add_mod m n
  have hl := Nat.mod_lt m (show 0 < n by omega)
  refine ⟨fun h => ?_, fun h => ?_⟩
  · have e : m + 1 = n * (m / n) + (m % n + 1) := by omega
    refine ⟨?_, ?_⟩
    · rw [e, Nat.mul_add_div (by omega), Nat.div_eq_of_lt h, Nat.add_zero]
    · rw [e, Nat.mul_add_mod, Nat.mod_eq_of_lt h]
  · have e : m + 1 = n * (m / n + 1) + 0 := by rw [Nat.mul_add, Nat.mul_one]; omega
    refine ⟨?_, ?_⟩
    · rw [e, Nat.mul_add_div (by omega), Nat.zero_div, Nat.add_zero]
    · rw [e, Nat.mul_add_mod, Nat.zero_mod]
theorem rnd_form {n f s a b : Nat} (hf : f < 6) (hs : s < 4) (ha : a < n) (hb : b < n) : ∀ k, k ≤ 4 * n →
    (a + k) / n < 5 ∧ rnd n (Pn n f s a b) s k = (Pn n (cyF f s ((a + k) / n)) (cyS f s ((a + k) / n)) ((a + k) % n) b, cyS f s ((a + k) / n)) := by
  intro k
  have hn : 1 ≤ n := by omega
  have h5 : ∀ k, k ≤ 4 * n → (a + k) / n < 5 := fun k hk => Nat.div_lt_of_lt_mul (by omega)
  induction k with
  | zero =>
    intro _
    rw [Nat.add_zero, Nat.div_eq_of_lt ha, Nat.mod_eq_of_lt ha]
    exact ⟨by omega, rfl⟩
  | succ k ih =>
    intro hk
    refine ⟨h5 _ hk, ?_⟩
    obtain ⟨q5, e⟩ := ih (by omega)
    obtain ⟨l1, l2⟩ := cy_lt f hf s hs _ q5
    have hl := Nat.mod_lt (a + k) (show 0 < n by omega)
    obtain ⟨b1, b2⟩ := bs_Pn (f := cyF f s ((a + k) / n)) l2 hl hb
    obtain ⟨d1, d2⟩ := div_step (m := a + k) hn
    rw [rnd, e]
    simp only [b1, b2]
    rw [show a + (k + 1) = a + k + 1 by omega]
    by_cases h : (a + k) % n + 1 < n
    · obtain ⟨x, y⟩ := d1 h
      rw [if_pos h, if_pos h, x, y]
      rw [show ((cyS f s ((a + k) / n) + 2) % 4 + 2) % 4 = cyS f s ((a + k) / n) by omega]
    · obtain ⟨x, y⟩ := d2 h
      have q4 : (a + k) / n < 4 := by
        have := h5 (k + 1) hk
        rw [show a + (k + 1) = a + k + 1 by omega, x] at this
        omega
      obtain ⟨m1, m2⟩ := cy_next f hf s hs _ q4
      have l3 := (cy_lt f hf s hs ((a + k) / n + 1) (by omega)).2
      rw [if_neg h, if_neg h, x, y, m1, m2]
      rw [show ((cyS f s ((a + k) / n + 1) + 2) % 4 + 2) % 4 = cyS f s ((a + k) / n + 1) by omega]
theorem rnd_back {n f s a b : Nat} (hf : f < 6) (hs : s < 4) (ha : a < n) (hb : b < n) : rnd n (Pn n f s a b) s (4 * n) = (Pn n f s a b, s) := by
  obtain ⟨_, e⟩ := rnd_form hf hs ha hb (4 * n) (Nat.le_refl _)
  have h1 : (a + 4 * n) / n = 4 := by rw [Nat.add_mul_div_right _ _ (by omega), Nat.div_eq_of_lt ha]
  have h2 : (a + 4 * n) % n = a := by rw [Nat.add_mul_mod_self_right, Nat.mod_eq_of_lt ha]
  rw [h1, h2] at e
  exact e
theorem rnd_not {n f s a b k : Nat} (hf : f < 6) (hs : s < 4) (ha : a < n) (hb : b < n) (k0 : 0 < k) (k4 : k < 4 * n) : ¬ ((rnd n (Pn n f s a b) s k).1 = Pn n f s a b ∧ (rnd n (Pn n f s a b) s k).2 = s) := by
  rintro ⟨e1, e2⟩
  obtain ⟨q5, e⟩ := rnd_form hf hs ha hb k (by omega)
  rw [e] at e1 e2
  simp only at e1 e2
  obtain ⟨l1, l2⟩ := cy_lt f hf s hs _ q5
  have hl := Nat.mod_lt (a + k) (show 0 < n by omega)
  rw [e2] at e1
  obtain ⟨x1, x2, _⟩ := Pn_inj hs hl hb ha hb e1
  have hd := Nat.div_add_mod (a + k) n
  by_cases hq : (a + k) / n < 4
  · have := cy_ne f hf s hs _ hq 0 (by omega) x1
    rw [this, Nat.mul_zero, x2] at hd
    omega
  · have h4 : (a + k) / n = 4 := by omega
    rw [h4, x2] at hd
    omega
/-- how often face g was gone through in the first k steps -/
def cnt (n c s g : Nat) : Nat → Nat
  | 0 => 0
  | k + 1 => cnt n c s g k + if cf n (rnd n c s k).1 = g then 1 else 0
theorem rnd_cf {n f s a b k : Nat} (hf : f < 6) (hs : s < 4) (ha : a < n) (hb : b < n) (hk : k ≤ 4 * n) : cf n (rnd n (Pn n f s a b) s k).1 = cyF f s ((a + k) / n) := by
  obtain ⟨q5, e⟩ := rnd_form hf hs ha hb k hk
  rw [e]
  exact (Pn_dec (cy_lt f hf s hs _ q5).2 (Nat.mod_lt _ (by omega)) hb).1
theorem div_is {n m q : Nat} (h1 : n * q ≤ m) (h2 : m < n * q + n) : m / n = q := by
  have e : m = n * q + (m - n * q) := by omega
  rw [e, Nat.mul_add_div (by omega), Nat.div_eq_of_lt (by omega), Nat.add_zero]
theorem ite_one {p : Prop} [Decidable p] (x : Nat) : (if p then x + 1 else 0) = (if p then x else 0) + if p then 1 else 0 := by split <;> rfl
theorem cnt_form {n f s a b g : Nat} (hf : f < 6) (hs : s < 4) (ha : a < n) (hb : b < n) : ∀ k, k ≤ 4 * n →
    cnt n (Pn n f s a b) s g k = (if cyF f s 0 = g then min (a + k) n - a else 0) + (if cyF f s 1 = g then min (a + k) (2 * n) - n else 0) + (if cyF f s 2 = g then min (a + k) (3 * n) - 2 * n else 0) + (if cyF f s 3 = g then min (a + k) (4 * n) - 3 * n else 0) + (if cyF f s 4 = g then a + k - 4 * n else 0) := by
  intro k
  induction k with
  | zero =>
    intro _
    have e0 : min (a + 0) n - a = 0 := by omega
    have e1 : min (a + 0) (2 * n) - n = 0 := by omega
    have e2 : min (a + 0) (3 * n) - 2 * n = 0 := by omega
    have e3 : min (a + 0) (4 * n) - 3 * n = 0 := by omega
    have e4 : a + 0 - 4 * n = 0 := by omega
    rw [e0, e1, e2, e3, e4]
    simp [cnt]
  | succ k ih =>
    intro hk
    have h := ih (by omega)
    have hc := rnd_cf (n := n) hf hs ha hb (show k ≤ 4 * n by omega)
    simp only [cnt]
    rw [h, hc]
    clear h ih hc
    rcases (show a + k < n ∨ (n ≤ a + k ∧ a + k < 2 * n) ∨ (2 * n ≤ a + k ∧ a + k < 3 * n) ∨ (3 * n ≤ a + k ∧ a + k < 4 * n) ∨ (4 * n ≤ a + k ∧ a + k < 5 * n) by omega) with h | h | h | h | h
    · rw [div_is (q := 0) (by omega) (by omega)]
      have e0 : min (a + (k + 1)) n - a = min (a + k) n - a + 1 := by omega
      have e1 : min (a + (k + 1)) (2 * n) - n = min (a + k) (2 * n) - n := by omega
      have e2 : min (a + (k + 1)) (3 * n) - 2 * n = min (a + k) (3 * n) - 2 * n := by omega
      have e3 : min (a + (k + 1)) (4 * n) - 3 * n = min (a + k) (4 * n) - 3 * n := by omega
      have e4 : a + (k + 1) - 4 * n = a + k - 4 * n := by omega
      rw [e0, e1, e2, e3, e4, ite_one (p := cyF f s 0 = g) (min (a + k) n - a)]
      omega
    · rw [div_is (q := 1) (by omega) (by omega)]
      have e0 : min (a + (k + 1)) n - a = min (a + k) n - a := by omega
      have e1 : min (a + (k + 1)) (2 * n) - n = min (a + k) (2 * n) - n + 1 := by omega
      have e2 : min (a + (k + 1)) (3 * n) - 2 * n = min (a + k) (3 * n) - 2 * n := by omega
      have e3 : min (a + (k + 1)) (4 * n) - 3 * n = min (a + k) (4 * n) - 3 * n := by omega
      have e4 : a + (k + 1) - 4 * n = a + k - 4 * n := by omega
      rw [e0, e1, e2, e3, e4, ite_one (p := cyF f s 1 = g) (min (a + k) (2 * n) - n)]
      omega
    · rw [div_is (q := 2) (by omega) (by omega)]
      have e0 : min (a + (k + 1)) n - a = min (a + k) n - a := by omega
      have e1 : min (a + (k + 1)) (2 * n) - n = min (a + k) (2 * n) - n := by omega
      have e2 : min (a + (k + 1)) (3 * n) - 2 * n = min (a + k) (3 * n) - 2 * n + 1 := by omega
      have e3 : min (a + (k + 1)) (4 * n) - 3 * n = min (a + k) (4 * n) - 3 * n := by omega
      have e4 : a + (k + 1) - 4 * n = a + k - 4 * n := by omega
      rw [e0, e1, e2, e3, e4, ite_one (p := cyF f s 2 = g) (min (a + k) (3 * n) - 2 * n)]
      omega
    · rw [div_is (q := 3) (by omega) (by omega)]
      have e0 : min (a + (k + 1)) n - a = min (a + k) n - a := by omega
      have e1 : min (a + (k + 1)) (2 * n) - n = min (a + k) (2 * n) - n := by omega
      have e2 : min (a + (k + 1)) (3 * n) - 2 * n = min (a + k) (3 * n) - 2 * n := by omega
      have e3 : min (a + (k + 1)) (4 * n) - 3 * n = min (a + k) (4 * n) - 3 * n + 1 := by omega
      have e4 : a + (k + 1) - 4 * n = a + k - 4 * n := by omega
      rw [e0, e1, e2, e3, e4, ite_one (p := cyF f s 3 = g) (min (a + k) (4 * n) - 3 * n)]
      omega
    · rw [div_is (q := 4) (by omega) (by omega)]
      have e0 : min (a + (k + 1)) n - a = min (a + k) n - a := by omega
      have e1 : min (a + (k + 1)) (2 * n) - n = min (a + k) (2 * n) - n := by omega
      have e2 : min (a + (k + 1)) (3 * n) - 2 * n = min (a + k) (3 * n) - 2 * n := by omega
      have e3 : min (a + (k + 1)) (4 * n) - 3 * n = min (a + k) (4 * n) - 3 * n := by omega
      have e4 : a + (k + 1) - 4 * n = a + k - 4 * n + 1 := by omega
      rw [e0, e1, e2, e3, e4, ite_one (p := cyF f s 4 = g) (a + k - 4 * n)]
      omega
/-- whether face g is gone through at all -/
def inC (f s g : Nat) : Bool := decide (cyF f s 0 = g) || decide (cyF f s 1 = g) || decide (cyF f s 2 = g) || decide (cyF f s 3 = g)
def smC (f s : Nat) : Nat → Nat
  | 0 => 0
  | j + 1 => smC f s j + if inC f s j = true then 1 else 0
theorem sm_six : ∀ f < 6, ∀ s < 4, smC f s 6 = 4 := by decide +kernel
theorem cnt_end {n f s a b g : Nat} (hf : f < 6) (hs : s < 4) (ha : a < n) (hb : b < n) : cnt n (Pn n f s a b) s g (4 * n) = if inC f s g = true then n else 0 := by
  rw [cnt_form hf hs ha hb (4 * n) (Nat.le_refl _)]
  have e4 : cyF f s 4 = cyF f s 0 := rfl
  rw [e4]
  have n01 : cyF f s 0 ≠ cyF f s 1 := fun e => absurd (cy_ne f hf s hs 0 (by omega) 1 (by omega) e) (by omega)
  have n02 : cyF f s 0 ≠ cyF f s 2 := fun e => absurd (cy_ne f hf s hs 0 (by omega) 2 (by omega) e) (by omega)
  have n03 : cyF f s 0 ≠ cyF f s 3 := fun e => absurd (cy_ne f hf s hs 0 (by omega) 3 (by omega) e) (by omega)
  have n12 : cyF f s 1 ≠ cyF f s 2 := fun e => absurd (cy_ne f hf s hs 1 (by omega) 2 (by omega) e) (by omega)
  have n13 : cyF f s 1 ≠ cyF f s 3 := fun e => absurd (cy_ne f hf s hs 1 (by omega) 3 (by omega) e) (by omega)
  have n23 : cyF f s 2 ≠ cyF f s 3 := fun e => absurd (cy_ne f hf s hs 2 (by omega) 3 (by omega) e) (by omega)
  unfold inC
  simp only [Bool.or_eq_true, decide_eq_true_eq]
  by_cases h0 : cyF f s 0 = g
  · rw [if_pos h0, if_neg (by omega), if_neg (by omega), if_neg (by omega), if_pos h0, if_pos (by omega)]; omega
  · by_cases h1 : cyF f s 1 = g
    · rw [if_neg h0, if_pos h1, if_neg (by omega), if_neg (by omega), if_neg h0, if_pos (by omega)]; omega
    · by_cases h2 : cyF f s 2 = g
      · rw [if_neg h0, if_neg h1, if_pos h2, if_neg (by omega), if_neg h0, if_pos (by omega)]; omega
      · by_cases h3 : cyF f s 3 = g
        · rw [if_neg h0, if_neg h1, if_neg h2, if_pos h3, if_neg h0, if_pos (by omega)]; omega
        · rw [if_neg h0, if_neg h1, if_neg h2, if_neg h3, if_neg h0, if_neg (by omega)]
end Go.Proofs.YtmccbhidpjdkfaaDoor.Cu
