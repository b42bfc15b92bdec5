/-
  The cube in whole numbers: cells by their numbers. No program here.
-/
import Derived.Test.YtdgkmaamjdglmaaDoorKp
namespace Go.Proofs.YtdgkmaamjdglmaaDoor.Cu
/-- a cell's number; its face, i and j -/
def nm (n f i j : Nat) : Nat := (f * n + j) * n + i
def cf (n c : Nat) : Nat := c / n / n
def ci (n c : Nat) : Nat := c % n
def cj (n c : Nat) : Nat := c / n % n
theorem nm_dec {n f i j : Nat} (hi : i < n) (hj : j < n) : cf n (nm n f i j) = f ∧ ci n (nm n f i j) = i ∧ cj n (nm n f i j) = j := by
  have h1 : nm n f i j / n = f * n + j := by
    unfold nm
    rw [Nat.mul_comm, Nat.mul_add_div (by omega), Nat.div_eq_of_lt hi, Nat.add_zero]
  have h2 : (f * n + j) / n = f := by rw [Nat.mul_comm, Nat.mul_add_div (by omega), Nat.div_eq_of_lt hj, Nat.add_zero]
  refine ⟨?_, ?_, ?_⟩
  · unfold cf; rw [h1, h2]
  · unfold ci nm; rw [Nat.mul_comm, Nat.mul_add_mod, Nat.mod_eq_of_lt hi]
  · unfold cj; rw [h1, Nat.mul_comm, Nat.mul_add_mod, Nat.mod_eq_of_lt hj]
theorem nm_lt {n f i j : Nat} (hf : f < 6) (hi : i < n) (hj : j < n) : nm n f i j < 6 * n * n := by
  unfold nm
  have a : f * n + j < 6 * n := by
    have : f * n + n ≤ 6 * n := by
      have := Nat.mul_le_mul_right n (show f + 1 ≤ 6 by omega)
      rwa [Nat.add_mul, Nat.one_mul] at this
    omega
  have b : (f * n + j) * n + n ≤ 6 * n * n := by
    have := Nat.mul_le_mul_right n (show f * n + j + 1 ≤ 6 * n by omega)
    rwa [Nat.add_mul (f * n + j) 1 n, Nat.one_mul] at this
  omega
theorem dec_lt {n c : Nat} (hn : 1 ≤ n) (hc : c < 6 * n * n) : cf n c < 6 ∧ ci n c < n ∧ cj n c < n ∧ nm n (cf n c) (ci n c) (cj n c) = c := by
  refine ⟨?_, Nat.mod_lt _ (by omega), Nat.mod_lt _ (by omega), ?_⟩
  · unfold cf
    rw [Nat.div_div_eq_div_mul]
    refine Nat.div_lt_of_lt_mul ?_
    rw [Nat.mul_comm (n * n) 6, ← Nat.mul_assoc]
    exact hc
  · unfold nm cf ci cj
    have h1 : c / n / n * n + c / n % n = c / n := by rw [Nat.mul_comm]; exact Nat.div_add_mod _ _
    rw [h1, Nat.mul_comm]
    exact Nat.div_add_mod _ _
/-- the number of the cell a ahead and b to the left, seen in way s -/
def Pn (n f s a b : Nat) : Nat := nm n f (atI n s a b) (atJ n s a b)
/-- the cell beside a cell, and its side -/
def bsC (n c s : Nat) : Nat :=
  if ah n s (ci n c) (cj n c) + 1 < n then Pn n (cf n c) s (ah n s (ci n c) (cj n c) + 1) (lf n s (ci n c) (cj n c))
  else Pn n (nf (cf n c) s) (ns (cf n c) s) 0 (lf n s (ci n c) (cj n c))
def bsS (n c s : Nat) : Nat := if ah n s (ci n c) (cj n c) + 1 < n then (s + 2) % 4 else (ns (cf n c) s + 2) % 4
/-- what a turn makes of a cell, and of its sides -/
def tnC (n t c : Nat) : Nat := Pn n (tf t (cf n c)) (tq t (cf n c)) (ci n c) (cj n c)
def tnS (n t c : Nat) : Nat := tq t (cf n c)
theorem Pn_dec {n f s a b : Nat} (hs : s < 4) (ha : a < n) (hb : b < n) : cf n (Pn n f s a b) = f ∧ ah n s (ci n (Pn n f s a b)) (cj n (Pn n f s a b)) = a ∧ lf n s (ci n (Pn n f s a b)) (cj n (Pn n f s a b)) = b := by
  have h := at_lt (s := s) ha hb
  obtain ⟨h1, h2, h3⟩ := nm_dec (f := f) h.1 h.2
  unfold Pn
  rw [h1, h2, h3]
  exact ⟨rfl, ah_at hs ha hb⟩
theorem Pn_lt {n f s a b : Nat} (hf : f < 6) (ha : a < n) (hb : b < n) : Pn n f s a b < 6 * n * n := nm_lt hf (at_lt ha hb).1 (at_lt ha hb).2
theorem Pn_ex {n c s : Nat} (hn : 1 ≤ n) (hc : c < 6 * n * n) (hs : s < 4) : ∃ f a b, f < 6 ∧ a < n ∧ b < n ∧ c = Pn n f s a b := by
  obtain ⟨h1, h2, h3, h4⟩ := dec_lt hn hc
  refine ⟨cf n c, ah n s (ci n c) (cj n c), lf n s (ci n c) (cj n c), h1, (ah_lt h2 h3).1, (ah_lt h2 h3).2, ?_⟩
  unfold Pn
  rw [(at_ah hs h2 h3).1, (at_ah hs h2 h3).2, h4]
theorem Pn_inj {n f s a b f' a' b' : Nat} (hs : s < 4) (ha : a < n) (hb : b < n) (ha' : a' < n) (hb' : b' < n) (h : Pn n f s a b = Pn n f' s a' b') : f = f' ∧ a = a' ∧ b = b' := by
  obtain ⟨h1, h2, h3⟩ := Pn_dec (f := f) hs ha hb
  obtain ⟨h4, h5, h6⟩ := Pn_dec (f := f') hs ha' hb'
  rw [h] at h1 h2 h3
  exact ⟨h1.symm.trans h4, h2.symm.trans h5, h3.symm.trans h6⟩
/-- the next way on -/
theorem Pn_rot {n f s a b : Nat} (hs : s < 4) (ha : a < n) (_hb : b < n) : Pn n f s a b = Pn n f ((s + 1) % 4) b (n - 1 - a) := by
  unfold Pn
  rcases four hs with rfl | rfl | rfl | rfl <;> simp only [atI, atJ, Nat.reduceAdd, Nat.reduceMod] <;> congr 1 <;> omega
theorem bs_Pn {n f s a b : Nat} (hs : s < 4) (ha : a < n) (hb : b < n) :
    bsC n (Pn n f s a b) s = (if a + 1 < n then Pn n f s (a + 1) b else Pn n (nf f s) (ns f s) 0 b) ∧ bsS n (Pn n f s a b) s = (if a + 1 < n then (s + 2) % 4 else (ns f s + 2) % 4) := by
  obtain ⟨h1, h2, h3⟩ := Pn_dec (f := f) hs ha hb
  unfold bsC bsS
  rw [h1, h2, h3]
  exact ⟨rfl, rfl⟩
theorem at_turn {n s q a b : Nat} (hs : s < 4) (hq : q < 4) (ha : a < n) (hb : b < n) :
    atI n q (atI n s a b) (atJ n s a b) = atI n ((s + q) % 4) a b ∧ atJ n q (atI n s a b) (atJ n s a b) = atJ n ((s + q) % 4) a b := by
  rcases four hs with rfl | rfl | rfl | rfl <;> rcases four hq with rfl | rfl | rfl | rfl <;> simp only [atI, atJ, Nat.reduceAdd, Nat.reduceMod, and_self, and_true, true_and] <;> omega
theorem tn_Pn {n t f s a b : Nat} (ht : t < 24) (hf : f < 6) (hs : s < 4) (ha : a < n) (hb : b < n) :
    tnC n t (Pn n f s a b) = Pn n (tf t f) ((s + tq t f) % 4) a b ∧ tnS n t (Pn n f s a b) = tq t f := by
  have h := at_lt (s := s) ha hb
  obtain ⟨h1, h2, h3⟩ := nm_dec (f := f) h.1 h.2
  have hq := (tf_lt t ht f hf).2
  unfold tnC tnS Pn
  rw [h1, h2, h3, (at_turn hs hq ha hb).1, (at_turn hs hq ha hb).2]
  exact ⟨rfl, rfl⟩
end Go.Proofs.YtdgkmaamjdglmaaDoor.Cu
