/-
  The cube in whole numbers: there and back, four unlike cells beside a cell. No program here.
-/
import Derived.Test.YtdgkmaamjdglmaaDoorKq
namespace Go.Proofs.YtdgkmaamjdglmaaDoor.Cu
theorem nf_back : ∀ f < 6, ∀ s < 4, nf (nf f s) ((ns f s + 2) % 4) = f ∧ ns (nf f s) ((ns f s + 2) % 4) = (s + 2) % 4 := by decide +kernel
theorem nf_ne : ∀ f < 6, ∀ s < 4, nf f s ≠ f := by decide +kernel
theorem nf_inj : ∀ f < 6, ∀ s < 4, ∀ r < 4, nf f s = nf f r → s = r := by decide +kernel
theorem Pn_rot2 {n f s a b : Nat} (hs : s < 4) (ha : a < n) (hb : b < n) : Pn n f s a b = Pn n f ((s + 2) % 4) (n - 1 - a) (n - 1 - b) := by
  rw [Pn_rot hs ha hb, Pn_rot (by omega) hb (by omega)]
  rw [show ((s + 1) % 4 + 1) % 4 = (s + 2) % 4 by omega]
theorem bs_lt {n c s : Nat} (hn : 1 ≤ n) (hc : c < 6 * n * n) (hs : s < 4) : bsC n c s < 6 * n * n ∧ bsS n c s < 4 := by
  obtain ⟨f, a, b, hf, ha, hb, rfl⟩ := Pn_ex hn hc hs
  obtain ⟨f1, f2⟩ := nf_lt f hf s hs
  obtain ⟨b1, b2⟩ := bs_Pn (f := f) hs ha hb
  rw [b1, b2]
  by_cases h : a + 1 < n
  · rw [if_pos h, if_pos h]; exact ⟨Pn_lt hf h hb, by omega⟩
  · rw [if_neg h, if_neg h]; exact ⟨Pn_lt f1 (by omega) hb, by omega⟩
theorem bs_back {n c s : Nat} (hn : 1 ≤ n) (hc : c < 6 * n * n) (hs : s < 4) : bsC n (bsC n c s) (bsS n c s) = c ∧ bsS n (bsC n c s) (bsS n c s) = s := by
  obtain ⟨f, a, b, hf, ha, hb, rfl⟩ := Pn_ex hn hc hs
  obtain ⟨f1, f2⟩ := nf_lt f hf s hs
  obtain ⟨b1, b2⟩ := bs_Pn (f := f) hs ha hb
  rw [b1, b2]
  have hs2 : (s + 2) % 4 < 4 := by omega
  by_cases h : a + 1 < n
  · rw [if_pos h, if_pos h, Pn_rot2 hs h hb]
    obtain ⟨d1, d2⟩ := bs_Pn (n := n) (f := f) (a := n - 1 - (a + 1)) (b := n - 1 - b) hs2 (by omega) (by omega)
    have hh : n - 1 - (a + 1) + 1 < n := by omega
    rw [d1, d2, if_pos hh, if_pos hh, Pn_rot2 hs ha hb]
    rw [show n - 1 - (a + 1) + 1 = n - 1 - a by omega]
    exact ⟨rfl, by omega⟩
  · have h0 : 0 < n := by omega
    obtain ⟨e1, e2⟩ := nf_back f hf s hs
    rw [if_neg h, if_neg h, Pn_rot2 f2 h0 hb]
    obtain ⟨d1, d2⟩ := bs_Pn (n := n) (f := nf f s) (s := (ns f s + 2) % 4) (a := n - 1 - 0) (b := n - 1 - b) (by omega) (by omega) (by omega)
    have hh : ¬ n - 1 - 0 + 1 < n := by omega
    rw [d1, d2, if_neg hh, if_neg hh, e1, e2, Pn_rot2 hs ha hb]
    rw [show n - 1 - a = 0 by omega]
    exact ⟨rfl, by omega⟩
def sx (s i : Nat) : Nat := match s with | 0 => i + 1 | 2 => i - 1 | _ => i
def sy (s j : Nat) : Nat := match s with | 1 => j + 1 | 3 => j - 1 | _ => j
theorem bs_in {n c s : Nat} (hn : 1 ≤ n) (hc : c < 6 * n * n) (hs : s < 4) (h : ah n s (ci n c) (cj n c) + 1 < n) :
    cf n (bsC n c s) = cf n c ∧ ci n (bsC n c s) = sx s (ci n c) ∧ cj n (bsC n c s) = sy s (cj n c) ∧ (s = 2 → 1 ≤ ci n c) ∧ (s = 3 → 1 ≤ cj n c) := by
  obtain ⟨h1, h2, h3, _⟩ := dec_lt hn hc
  have e : bsC n c s = Pn n (cf n c) s (ah n s (ci n c) (cj n c) + 1) (lf n s (ci n c) (cj n c)) := by unfold bsC; rw [if_pos h]
  rw [e]
  unfold Pn
  have hl := at_lt (s := s) h (ah_lt (s := s) h2 h3).2
  obtain ⟨d1, d2, d3⟩ := nm_dec (f := cf n c) hl.1 hl.2
  rw [d1, d2, d3]
  refine ⟨rfl, ?_⟩
  rcases four hs with rfl | rfl | rfl | rfl <;> refine ⟨?_, ?_, fun e => ?_, fun e => ?_⟩ <;> simp only [ah, lf, atI, atJ, sx, sy] at h ⊢ <;> omega
theorem bs_out {n c s : Nat} (hn : 1 ≤ n) (hc : c < 6 * n * n) (hs : s < 4) (h : ¬ ah n s (ci n c) (cj n c) + 1 < n) : cf n (bsC n c s) = nf (cf n c) s := by
  obtain ⟨h1, h2, h3, _⟩ := dec_lt hn hc
  have e : bsC n c s = Pn n (nf (cf n c) s) (ns (cf n c) s) 0 (lf n s (ci n c) (cj n c)) := by unfold bsC; rw [if_neg h]
  rw [e]
  exact (Pn_dec (nf_lt _ h1 s hs).2 (by omega) (ah_lt (s := s) h2 h3).2).1
theorem bs_self {n c s : Nat} (hn : 1 ≤ n) (hc : c < 6 * n * n) (hs : s < 4) : bsC n c s ≠ c := by
  intro e
  obtain ⟨h1, _⟩ := dec_lt hn hc
  by_cases h : ah n s (ci n c) (cj n c) + 1 < n
  · obtain ⟨_, d2, d3, d4, d5⟩ := bs_in hn hc hs h
    rw [e] at d2 d3
    rcases four hs with rfl | rfl | rfl | rfl <;> simp only [sx, sy] at d2 d3 <;> omega
  · have := bs_out hn hc hs h
    rw [e] at this
    exact nf_ne _ h1 s hs this.symm
theorem bs_unlike {n c s r : Nat} (hn : 1 ≤ n) (hc : c < 6 * n * n) (hs : s < 4) (hr : r < 4) (hne : s ≠ r) : bsC n c s ≠ bsC n c r := by
  intro e
  obtain ⟨h1, _⟩ := dec_lt hn hc
  by_cases h : ah n s (ci n c) (cj n c) + 1 < n
  · obtain ⟨d1, d2, d3, d4, d5⟩ := bs_in hn hc hs h
    by_cases k : ah n r (ci n c) (cj n c) + 1 < n
    · obtain ⟨_, e2, e3, e4, e5⟩ := bs_in hn hc hr k
      rw [e, e2] at d2
      rw [e, e3] at d3
      rcases four hs with rfl | rfl | rfl | rfl <;> rcases four hr with rfl | rfl | rfl | rfl <;> simp only [sx, sy] at d2 d3 <;> omega
    · have := bs_out hn hc hr k
      rw [← e, d1] at this
      exact nf_ne _ h1 r hr this.symm
  · have d := bs_out hn hc hs h
    by_cases k : ah n r (ci n c) (cj n c) + 1 < n
    · obtain ⟨e1, _⟩ := bs_in hn hc hr k
      rw [e, e1] at d
      exact nf_ne _ h1 s hs d.symm
    · have := bs_out hn hc hr k
      rw [← e, d] at this
      exact hne (nf_inj _ h1 s hs r hr this)
end Go.Proofs.YtdgkmaamjdglmaaDoor.Cu
