/-
  Who has the stretch that a cell's side is: pure facts.
-/
import Derived.Test.YthfholdhieigiaaDoorXf
import Derived.Test.YthfholdhieigiaaDoorKt
namespace Go.Proofs.YthfholdhieigiaaDoor
open Cu
def mm (e : P3) (f s : Nat) : P3 := pl e (sc (-1) (wy f s))
def gI (n : Nat) (e : P3) (f s : Nat) : Int := dt (mm e f s) (cR f) + n - 1
def gJ (n : Nat) (e : P3) (f s : Nat) : Int := dt (mm e f s) (cU f) + n - 1
def eg (n f t a b : Nat) : P3 := pl (ms n f t a b) (wy f t)
theorem eg_on {n f t a b : Nat} (hf : f < 6) (ht : t < 4) : dt (eg n f t a b) (cC f) = n := by
  rcases six hf with rfl | rfl | rfl | rfl | rfl | rfl <;> rcases four ht with rfl | rfl | rfl | rfl <;> simp only [eg, ms, pl, sc, dt, cC, cR, cU, wy, Nat.reduceAdd, Nat.reduceMod] <;> omega
theorem eg_only {n f t a b k : Nat} (hf : f < 6) (ht : t < 4) (hk : k < 6) (_ha : a < n) (hb : b < n) : ¬ dt (eg n f t a b) (cC k) = n ∨ k = f ∨ (a + 1 = n ∧ k = nf f t) := by
  rcases six hf with rfl | rfl | rfl | rfl | rfl | rfl <;> rcases four ht with rfl | rfl | rfl | rfl <;> rcases six hk with rfl | rfl | rfl | rfl | rfl | rfl <;> simp only [eg, ms, pl, sc, dt, cC, cR, cU, wy, nf, List.getD, List.getElem?_cons_zero, List.getElem?_cons_succ, Option.getD_some, Nat.reduceAdd, Nat.reduceMod, true_or, or_true, and_true] <;> omega
theorem g_same {n f t a b : Nat} (hf : f < 6) (ht : t < 4) (ha : a < n) (hb : b < n) : gI n (eg n f t a b) f t = 2 * (atI n t a b : Nat) ∧ gJ n (eg n f t a b) f t = 2 * (atJ n t a b : Nat) := by
  rcases six hf with rfl | rfl | rfl | rfl | rfl | rfl <;> rcases four ht with rfl | rfl | rfl | rfl <;> simp only [gI, gJ, mm, eg, ms, pl, sc, dt, cC, cR, cU, wy, atI, atJ, Nat.reduceAdd, Nat.reduceMod] <;> omega
def upI (n t a b : Nat) : Int := match t with | 0 => a + 1 | 1 => n - 1 - b | 2 => n - 2 - a | _ => b
def upJ (n t a b : Nat) : Int := match t with | 0 => b | 1 => a + 1 | 2 => n - 1 - b | _ => n - 2 - a
theorem g_next {n f t a b : Nat} (hf : f < 6) (ht : t < 4) : gI n (eg n f t a b) f ((t + 2) % 4) = 2 * upI n t a b ∧ gJ n (eg n f t a b) f ((t + 2) % 4) = 2 * upJ n t a b := by
  rcases six hf with rfl | rfl | rfl | rfl | rfl | rfl <;> rcases four ht with rfl | rfl | rfl | rfl <;> simp only [gI, gJ, mm, eg, ms, pl, sc, dt, cC, cR, cU, wy, upI, upJ, Nat.reduceAdd, Nat.reduceMod] <;> omega
theorem g_odd {n f t a b s : Nat} (hf : f < 6) (ht : t < 4) (hs : s < 4) (h1 : s ≠ t) (h2 : s ≠ (t + 2) % 4) : gI n (eg n f t a b) f s % 2 = 1 ∧ gJ n (eg n f t a b) f s % 2 = 1 := by
  rcases six hf with rfl | rfl | rfl | rfl | rfl | rfl <;> rcases four ht with rfl | rfl | rfl | rfl <;> rcases four hs with rfl | rfl | rfl | rfl <;> first
    | exact absurd rfl h1
    | exact absurd rfl h2
    | (simp only [gI, gJ, mm, eg, ms, pl, sc, dt, cC, cR, cU, wy, Nat.reduceAdd, Nat.reduceMod]; omega)
theorem ms_rev {n f s a b : Nat} (hf : f < 6) (hs : s < 4) (ha : a < n) (hb : b < n) : ms n f ((s + 2) % 4) (n - 1 - a) (n - 1 - b) = ms n f s a b := by
  rcases six hf with rfl | rfl | rfl | rfl | rfl | rfl <;> rcases four hs with rfl | rfl | rfl | rfl <;> simp only [ms, pl, sc, cC, cR, cU, wy, Nat.reduceAdd, Nat.reduceMod, Prod.mk.injEq] <;> omega
theorem tdm (k : Int) : (2 * k).tdiv 2 = k ∧ (2 * k).tmod 2 = 0 := ⟨Int.mul_tdiv_cancel_left k (by omega), Int.mul_tmod_right 2 k⟩
theorem tdo {x : Int} (h : x % 2 = 1) : x.tmod 2 ≠ 0 := by
  intro h2
  have := Int.dvd_of_tmod_eq_zero h2
  omega
def gd (n : Nat) (e : P3) (f s : Nat) : Int := cN n f ((gI n e f s).tdiv 2) ((gJ n e f s).tdiv 2)
theorem cN_nm {n f i j : Nat} (hn : 1 ≤ n ∧ n ≤ 32) (hf : f < 6) (hi : i < n) (hj : j < n) : cN n f i j = (nm n f i j : Nat) := by
  unfold cN
  rw [if_pos ⟨by omega, by rw [inR_iff]; omega, by rw [inR_iff]; omega, by rw [inR_iff]; omega⟩]
  simp [nm]
theorem cN_out {n f : Nat} {i j : Int} (h : ¬ ((0 ≤ i ∧ i < n) ∧ 0 ≤ j ∧ j < n)) : cN n f i j = -1 := by
  unfold cN
  rw [if_neg]
  rintro ⟨_, _, h1, h2⟩
  rw [inR_iff] at h1 h2
  exact h ⟨h1, h2⟩
theorem up_in {n t a b : Nat} (ht : t < 4) (ha : a + 1 < n) (hb : b < n) : upI n t a b = (atI n t (a + 1) b : Nat) ∧ upJ n t a b = (atJ n t (a + 1) b : Nat) := by
  rcases four ht with rfl | rfl | rfl | rfl <;> simp only [upI, upJ, atI, atJ, true_and, and_true] <;> omega
theorem up_out {n t a b : Nat} (ht : t < 4) (ha : a + 1 = n) : ¬ ((0 ≤ upI n t a b ∧ upI n t a b < n) ∧ 0 ≤ upJ n t a b ∧ upJ n t a b < n) := by
  rcases four ht with rfl | rfl | rfl | rfl <;> simp only [upI, upJ] <;> omega
theorem fam_same {n f t a b : Nat} (hn : 1 ≤ n ∧ n ≤ 32) (hf : f < 6) (ht : t < 4) (ha : a < n) (hb : b < n) :
    (gI n (eg n f t a b) f t).tmod 2 = 0 ∧ (gJ n (eg n f t a b) f t).tmod 2 = 0 ∧ gd n (eg n f t a b) f t = (Pn n f t a b : Nat) := by
  obtain ⟨h1, h2⟩ := g_same hf ht ha hb
  unfold gd
  rw [h1, h2, (tdm _).1, (tdm _).1, (tdm _).2, (tdm _).2]
  exact ⟨rfl, rfl, cN_nm hn hf (at_lt ha hb).1 (at_lt ha hb).2⟩
theorem fam_next {n f t a b : Nat} (hn : 1 ≤ n ∧ n ≤ 32) (hf : f < 6) (ht : t < 4) (ha : a < n) (hb : b < n) :
    (gI n (eg n f t a b) f ((t + 2) % 4)).tmod 2 = 0 ∧ (gJ n (eg n f t a b) f ((t + 2) % 4)).tmod 2 = 0 ∧ gd n (eg n f t a b) f ((t + 2) % 4) = if a + 1 < n then ((Pn n f t (a + 1) b : Nat) : Int) else -1 := by
  obtain ⟨h1, h2⟩ := g_next (n := n) (a := a) (b := b) hf ht
  unfold gd
  rw [h1, h2, (tdm _).1, (tdm _).1, (tdm _).2, (tdm _).2]
  refine ⟨rfl, rfl, ?_⟩
  by_cases h : a + 1 < n
  · rw [if_pos h, (up_in ht h hb).1, (up_in ht h hb).2]
    exact cN_nm hn hf (at_lt h hb).1 (at_lt h hb).2
  · rw [if_neg h]
    exact cN_out (up_out ht (by omega))
/-- over the edge of a face: the same stretch, seen from the other face -/
theorem eg_edge {n f t a b : Nat} (hf : f < 6) (ht : t < 4) (ha : a + 1 = n) (hb : b < n) : eg n f t a b = eg n (nf f t) ((ns f t + 2) % 4) a (n - 1 - b) := by
  obtain ⟨h1, h2⟩ := nf_lt f hf t ht
  have h := ms_edge (b := b) hf ht ha
  have hr := ms_rev (a := 0) (b := b) h1 h2 (show 0 < n by omega) hb
  rw [show n - 1 - 0 = a by omega] at hr
  have hb := (wy_back f hf t ht).2
  unfold eg
  rw [hr, ← h, ← hb]
  simp only [pl, sc, Prod.mk.injEq]
  omega
/-- what a look at one side of one face finds: nothing, no cell, the cell itself, or the cell beside it -/
theorem scan {n f t a b k s : Nat} (hn : 1 ≤ n ∧ n ≤ 32) (hf : f < 6) (ht : t < 4) (ha : a < n) (hb : b < n) (hk : k < 6) (hs : s < 4) (hd : dt (eg n f t a b) (cC k) = n) :
    (gI n (eg n f t a b) k s).tmod 2 ≠ 0 ∨ ((gI n (eg n f t a b) k s).tmod 2 = 0 ∧ (gJ n (eg n f t a b) k s).tmod 2 = 0 ∧
      (gd n (eg n f t a b) k s = -1 ∨ gd n (eg n f t a b) k s = (Pn n f t a b : Nat) ∨ (gd n (eg n f t a b) k s = (bsC n (Pn n f t a b) t : Nat) ∧ s = bsS n (Pn n f t a b) t))) := by
  obtain ⟨b1, b2⟩ := bs_Pn (f := f) ht ha hb
  rcases (eg_only hf ht hk ha hb).resolve_left (fun h => h hd) with rfl | ⟨he, rfl⟩
  · by_cases h1 : s = t
    · subst h1
      obtain ⟨x, y, z⟩ := fam_same hn hf ht ha hb
      exact .inr ⟨x, y, .inr (.inl z)⟩
    · by_cases h2 : s = (t + 2) % 4
      · subst h2
        obtain ⟨x, y, z⟩ := fam_next hn hf ht ha hb
        refine .inr ⟨x, y, ?_⟩
        rw [z, b1, b2]
        by_cases h : a + 1 < n
        · rw [if_pos h, if_pos h, if_pos h]; exact .inr (.inr ⟨rfl, rfl⟩)
        · rw [if_neg h]; exact .inl rfl
      · exact .inl (tdo (g_odd hf ht hs h1 h2).1)
  · obtain ⟨l1, l2⟩ := nf_lt f hf t ht
    have l3 : (ns f t + 2) % 4 < 4 := Nat.mod_lt _ (by omega)
    have hb' : n - 1 - b < n := by omega
    rw [eg_edge hf ht he hb, b1, b2, if_neg (by omega), if_neg (by omega)]
    have hP : Pn n (nf f t) (ns f t) 0 b = Pn n (nf f t) ((ns f t + 2) % 4) a (n - 1 - b) := by
      rw [Pn_rot2 l2 (show 0 < n by omega) hb, show n - 1 - 0 = a by omega]
    by_cases h1 : s = (ns f t + 2) % 4
    · subst h1
      obtain ⟨x, y, z⟩ := fam_same hn l1 l3 ha hb'
      exact .inr ⟨x, y, .inr (.inr ⟨by rw [z, hP], rfl⟩)⟩
    · by_cases h2 : s = ((ns f t + 2) % 4 + 2) % 4
      · subst h2
        obtain ⟨x, y, z⟩ := fam_next hn l1 l3 ha hb'
        rw [if_neg (by omega)] at z
        exact .inr ⟨x, y, .inl z⟩
      · exact .inl (tdo (g_odd l1 l3 hs h1 h2).1)
/-- where the cell beside is found -/
theorem scan_hit {n f t a b : Nat} (hn : 1 ≤ n ∧ n ≤ 32) (hf : f < 6) (ht : t < 4) (ha : a < n) (hb : b < n) :
    ∃ k s, k < 6 ∧ s < 4 ∧ dt (eg n f t a b) (cC k) = n ∧ (gI n (eg n f t a b) k s).tmod 2 = 0 ∧ (gJ n (eg n f t a b) k s).tmod 2 = 0 ∧
      gd n (eg n f t a b) k s = (bsC n (Pn n f t a b) t : Nat) ∧ s = bsS n (Pn n f t a b) t := by
  obtain ⟨b1, b2⟩ := bs_Pn (f := f) ht ha hb
  by_cases h : a + 1 < n
  · obtain ⟨x, y, z⟩ := fam_next hn hf ht ha hb
    refine ⟨f, (t + 2) % 4, hf, Nat.mod_lt _ (by omega), eg_on hf ht, x, y, ?_, ?_⟩
    · rw [z, b1, if_pos h, if_pos h]
    · rw [b2, if_pos h]
  · obtain ⟨l1, l2⟩ := nf_lt f hf t ht
    have l3 : (ns f t + 2) % 4 < 4 := Nat.mod_lt _ (by omega)
    have hb' : n - 1 - b < n := by omega
    obtain ⟨x, y, z⟩ := fam_same hn l1 l3 ha hb'
    rw [b1, b2, if_neg h, if_neg h, eg_edge hf ht (by omega) hb]
    refine ⟨nf f t, (ns f t + 2) % 4, l1, l3, eg_on l1 l3, x, y, ?_, rfl⟩
    rw [z, Pn_rot2 (s := ns f t) l2 (show 0 < n by omega) hb, show n - 1 - 0 = a by omega]
end Go.Proofs.YthfholdhieigiaaDoor
