/-
  The cube in whole numbers: round a corner. No program here.
-/
import Derived.Test.YthmljifkncfjgaaDoorKt
namespace Go.Proofs.YthmljifkncfjgaaDoor.Cu
/-- over a side and then over the next one of that cell, again and again -/
def crn (n c s : Nat) : Nat → Nat × Nat
  | 0 => (c, s)
  | k + 1 => (bsC n (crn n c s k).1 (crn n c s k).2, (bsS n (crn n c s k).1 (crn n c s k).2 + 3) % 4)
theorem crn_lt {n c s : Nat} (hn : 1 ≤ n) (hc : c < 6 * n * n) (hs : s < 4) (k : Nat) : (crn n c s k).1 < 6 * n * n ∧ (crn n c s k).2 < 4 := by
  induction k with
  | zero => exact ⟨hc, hs⟩
  | succ k ih => exact ⟨(bs_lt hn ih.1 ih.2).1, Nat.mod_lt _ (by omega)⟩
/-- one step, seen from the corner -/
theorem crn_in {n f s a b : Nat} (hs : s < 4) (ha : a + 1 < n) (hb : b < n) : bsC n (Pn n f s a b) s = Pn n f ((s + 1) % 4) b (n - 1 - (a + 1)) ∧ (bsS n (Pn n f s a b) s + 3) % 4 = (s + 1) % 4 := by
  obtain ⟨b1, b2⟩ := bs_Pn (f := f) hs (show a < n by omega) hb
  rw [b1, b2, if_pos ha, if_pos ha, Pn_rot hs ha hb]
  exact ⟨rfl, by omega⟩
theorem crn_out {n f s a b : Nat} (hf : f < 6) (hs : s < 4) (ha : a + 1 = n) (hb : b < n) : bsC n (Pn n f s a b) s = Pn n (nf f s) ((ns f s + 1) % 4) b (n - 1) ∧ (bsS n (Pn n f s a b) s + 3) % 4 = (ns f s + 1) % 4 := by
  obtain ⟨b1, b2⟩ := bs_Pn (f := f) hs (show a < n by omega) hb
  have h : ¬ a + 1 < n := by omega
  rw [b1, b2, if_neg h, if_neg h, Pn_rot (nf_lt f hf s hs).2 (show 0 < n by omega) hb]
  exact ⟨rfl, by omega⟩
theorem tri : ∀ f < 6, ∀ s < 4, nf (nf (nf f s) ((ns f s + 1) % 4)) ((ns (nf f s) ((ns f s + 1) % 4) + 1) % 4) = f ∧ (ns (nf (nf f s) ((ns f s + 1) % 4)) ((ns (nf f s) ((ns f s + 1) % 4) + 1) % 4) + 1) % 4 = s ∧ nf (nf f s) ((ns f s + 1) % 4) ≠ f := by decide +kernel
theorem ne_face {n f g s r a b x y : Nat} (hs : s < 4) (hr : r < 4) (ha : a < n) (hb : b < n) (hx : x < n) (hy : y < n) (h : f ≠ g) : Pn n f s a b ≠ Pn n g r x y := by
  intro e
  have e1 := (Pn_dec (f := f) hs ha hb).1
  have e2 := (Pn_dec (f := g) hr hx hy).1
  rw [e, e2] at e1
  exact h e1.symm
theorem ne_at {n f s a b x y : Nat} (hs : s < 4) (ha : a < n) (hb : b < n) (hx : x < n) (hy : y < n) (h : a ≠ x ∨ b ≠ y) : Pn n f s a b ≠ Pn n f s x y := by
  intro e
  obtain ⟨_, h1, h2⟩ := Pn_inj hs ha hb hx hy e
  omega
theorem corner_pure {n f s a b : Nat} (hf : f < 6) (hs : s < 4) (ha : a < n) (hb : b < n) :
    (a + 1 = n ∧ b + 1 = n → crn n (Pn n f s a b) s 3 = (Pn n f s a b, s) ∧ (crn n (Pn n f s a b) s 1).1 ≠ Pn n f s a b ∧ (crn n (Pn n f s a b) s 2).1 ≠ Pn n f s a b) ∧
    (¬ (a + 1 = n ∧ b + 1 = n) → crn n (Pn n f s a b) s 4 = (Pn n f s a b, s) ∧ (crn n (Pn n f s a b) s 1).1 ≠ Pn n f s a b ∧ (crn n (Pn n f s a b) s 2).1 ≠ Pn n f s a b ∧ (crn n (Pn n f s a b) s 3).1 ≠ Pn n f s a b) := by
  obtain ⟨f1, f2⟩ := nf_lt f hf s hs
  have hself : (crn n (Pn n f s a b) s 1).1 ≠ Pn n f s a b := bs_self (by omega) (Pn_lt hf ha hb) hs
  have hs1 : (s + 1) % 4 < 4 := by omega
  have hs2 : (s + 2) % 4 < 4 := by omega
  have hs3 : (s + 3) % 4 < 4 := by omega
  refine ⟨fun h => ?_, fun h => ?_⟩
  · obtain ⟨g1, g2⟩ := nf_lt _ f1 ((ns f s + 1) % 4) (by omega)
    obtain ⟨t1, t2, t3⟩ := tri f hf s hs
    have c1 : crn n (Pn n f s a b) s 1 = (Pn n (nf f s) ((ns f s + 1) % 4) b (n - 1), (ns f s + 1) % 4) := by
      obtain ⟨x, y⟩ := crn_out (b := b) hf hs h.1 hb
      simp only [crn, x, y]
    have c2 : crn n (Pn n f s a b) s 2 = (Pn n (nf (nf f s) ((ns f s + 1) % 4)) ((ns (nf f s) ((ns f s + 1) % 4) + 1) % 4) (n - 1) (n - 1), (ns (nf f s) ((ns f s + 1) % 4) + 1) % 4) := by
      obtain ⟨x, y⟩ := crn_out (n := n) (a := b) (b := n - 1) f1 (show (ns f s + 1) % 4 < 4 by omega) h.2 (by omega)
      rw [crn, c1]; simp only [x, y]
    have c3 : crn n (Pn n f s a b) s 3 = (Pn n f s a b, s) := by
      obtain ⟨x, y⟩ := crn_out (n := n) (a := n - 1) (b := n - 1) g1 (show (ns (nf f s) ((ns f s + 1) % 4) + 1) % 4 < 4 by omega) (by omega) (by omega)
      rw [crn, c2]; simp only [x, y]
      rw [t1, t2, show n - 1 = a by omega]
      rw [show Pn n f s a a = Pn n f s a b by rw [show b = a by omega]]
    refine ⟨c3, hself, ?_⟩
    rw [c2]
    exact ne_face (by omega) hs (by omega) (by omega) ha hb t3
  · by_cases h1 : a + 1 < n
    · have c1 : crn n (Pn n f s a b) s 1 = (Pn n f ((s + 1) % 4) b (n - 1 - (a + 1)), (s + 1) % 4) := by
        obtain ⟨x, y⟩ := crn_in (f := f) hs h1 hb
        simp only [crn, x, y]
      by_cases h2 : b + 1 < n
      · have c2 : crn n (Pn n f s a b) s 2 = (Pn n f ((s + 2) % 4) (n - 1 - (a + 1)) (n - 1 - (b + 1)), (s + 2) % 4) := by
          obtain ⟨x, y⟩ := crn_in (n := n) (f := f) (a := b) (b := n - 1 - (a + 1)) hs1 h2 (by omega)
          rw [crn, c1]; simp only [x, y]
          rw [show ((s + 1) % 4 + 1) % 4 = (s + 2) % 4 by omega]
        have c3 : crn n (Pn n f s a b) s 3 = (Pn n f ((s + 3) % 4) (n - 1 - (b + 1)) a, (s + 3) % 4) := by
          obtain ⟨x, y⟩ := crn_in (n := n) (f := f) (a := n - 1 - (a + 1)) (b := n - 1 - (b + 1)) hs2 (by omega) (by omega)
          rw [crn, c2]; simp only [x, y]
          rw [show ((s + 2) % 4 + 1) % 4 = (s + 3) % 4 by omega, show n - 1 - (n - 1 - (a + 1) + 1) = a by omega]
        have c4 : crn n (Pn n f s a b) s 4 = (Pn n f s a b, s) := by
          obtain ⟨x, y⟩ := crn_in (n := n) (f := f) (a := n - 1 - (b + 1)) (b := a) hs3 (by omega) ha
          rw [crn, c3]; simp only [x, y]
          rw [show ((s + 3) % 4 + 1) % 4 = s by omega, show n - 1 - (n - 1 - (b + 1) + 1) = b by omega]
        refine ⟨c4, hself, ?_, ?_⟩
        · rw [c2]
          rw [← Pn_rot2 hs h1 h2]
          exact ne_at hs h1 h2 ha hb (by omega)
        · rw [c3]
          rw [Pn_rot hs3 (by omega) ha, show ((s + 3) % 4 + 1) % 4 = s by omega, show n - 1 - (n - 1 - (b + 1)) = b + 1 by omega]
          exact ne_at hs ha h2 ha hb (by omega)
      · have hb' : b + 1 = n := by omega
        obtain ⟨k1, k2⟩ := nf_lt f hf ((s + 1) % 4) hs1
        obtain ⟨m1, m2⟩ := nf_back f hf ((s + 1) % 4) hs1
        have c2 : crn n (Pn n f s a b) s 2 = (Pn n (nf f ((s + 1) % 4)) ((ns f ((s + 1) % 4) + 1) % 4) (n - 1 - (a + 1)) (n - 1), (ns f ((s + 1) % 4) + 1) % 4) := by
          obtain ⟨x, y⟩ := crn_out (n := n) (a := b) (b := n - 1 - (a + 1)) hf hs1 hb' (by omega)
          rw [crn, c1]; simp only [x, y]
        have c3 : crn n (Pn n f s a b) s 3 = (Pn n (nf f ((s + 1) % 4)) ((ns f ((s + 1) % 4) + 2) % 4) (n - 1) a, (ns f ((s + 1) % 4) + 2) % 4) := by
          obtain ⟨x, y⟩ := crn_in (n := n) (f := nf f ((s + 1) % 4)) (a := n - 1 - (a + 1)) (b := n - 1) (show (ns f ((s + 1) % 4) + 1) % 4 < 4 by omega) (by omega) (by omega)
          rw [crn, c2]; simp only [x, y]
          rw [show ((ns f ((s + 1) % 4) + 1) % 4 + 1) % 4 = (ns f ((s + 1) % 4) + 2) % 4 by omega, show n - 1 - (n - 1 - (a + 1) + 1) = a by omega]
        have c4 : crn n (Pn n f s a b) s 4 = (Pn n f s a b, s) := by
          obtain ⟨x, y⟩ := crn_out (n := n) (a := n - 1) (b := a) k1 (show (ns f ((s + 1) % 4) + 2) % 4 < 4 by omega) (by omega) ha
          rw [crn, c3]; simp only [x, y]
          rw [m1, m2, show (((s + 1) % 4 + 2) % 4 + 1) % 4 = s by omega, show n - 1 = b by omega]
        have hne := nf_ne f hf ((s + 1) % 4) hs1
        refine ⟨c4, hself, ?_, ?_⟩
        · rw [c2]; exact ne_face (by omega) hs (by omega) (by omega) ha hb hne
        · rw [c3]; exact ne_face (by omega) hs (by omega) ha ha hb hne
    · have ha' : a + 1 = n := by omega
      have h2 : b + 1 < n := by omega
      obtain ⟨m1, m2⟩ := nf_back f hf s hs
      have c1 : crn n (Pn n f s a b) s 1 = (Pn n (nf f s) ((ns f s + 1) % 4) b (n - 1), (ns f s + 1) % 4) := by
        obtain ⟨x, y⟩ := crn_out (b := b) hf hs ha' hb
        simp only [crn, x, y]
      have c2 : crn n (Pn n f s a b) s 2 = (Pn n (nf f s) ((ns f s + 2) % 4) (n - 1) (n - 1 - (b + 1)), (ns f s + 2) % 4) := by
        obtain ⟨x, y⟩ := crn_in (n := n) (f := nf f s) (a := b) (b := n - 1) (show (ns f s + 1) % 4 < 4 by omega) h2 (by omega)
        rw [crn, c1]; simp only [x, y]
        rw [show ((ns f s + 1) % 4 + 1) % 4 = (ns f s + 2) % 4 by omega]
      have c3 : crn n (Pn n f s a b) s 3 = (Pn n f ((s + 3) % 4) (n - 1 - (b + 1)) (n - 1), (s + 3) % 4) := by
        obtain ⟨x, y⟩ := crn_out (n := n) (a := n - 1) (b := n - 1 - (b + 1)) f1 (show (ns f s + 2) % 4 < 4 by omega) (by omega) (by omega)
        rw [crn, c2]; simp only [x, y]
        rw [m1, m2, show ((s + 2) % 4 + 1) % 4 = (s + 3) % 4 by omega]
      have c4 : crn n (Pn n f s a b) s 4 = (Pn n f s a b, s) := by
        obtain ⟨x, y⟩ := crn_in (n := n) (f := f) (a := n - 1 - (b + 1)) (b := n - 1) hs3 (by omega) (by omega)
        rw [crn, c3]; simp only [x, y]
        rw [show ((s + 3) % 4 + 1) % 4 = s by omega, show n - 1 - (n - 1 - (b + 1) + 1) = b by omega, show n - 1 = a by omega]
      have hne := nf_ne f hf s hs
      refine ⟨c4, hself, ?_, ?_⟩
      · rw [c2]; exact ne_face (by omega) hs (by omega) (by omega) ha hb hne
      · rw [c3, Pn_rot hs3 (by omega) (by omega), show ((s + 3) % 4 + 1) % 4 = s by omega, show n - 1 - (n - 1 - (b + 1)) = b + 1 by omega, show n - 1 = a by omega]
        exact ne_at hs ha h2 ha hb (by omega)
end Go.Proofs.YthmljifkncfjgaaDoor.Cu
