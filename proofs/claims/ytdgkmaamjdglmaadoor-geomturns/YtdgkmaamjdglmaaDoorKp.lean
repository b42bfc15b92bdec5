/-
  The cube in whole numbers: middles of cells, what lies beside a cell, what a turn makes of it. No program here.
-/
import Derived.Test.YtdgkmaamjdglmaaDoorKa
namespace Go.Proofs.YtdgkmaamjdglmaaDoor.Cu

theorem md_dt {n f i j : Nat} (hf : f < 6) : dt (md n f i j) (cC f) = n ∧ dt (md n f i j) (cR f) = 2 * i + 1 - n ∧ dt (md n f i j) (cU f) = 2 * j + 1 - n := by
  rcases six hf with rfl | rfl | rfl | rfl | rfl | rfl <;> simp only [md, pl, sc, dt, cC, cR, cU] <;> omega
theorem md_face {n f i j k : Nat} (hf : f < 6) (hk : k < 6) (_hi : i < n) (hj : j < n) : (dt (md n f i j) (cC k) = n) ↔ k = f := by
  rcases six hf with rfl | rfl | rfl | rfl | rfl | rfl <;> rcases six hk with rfl | rfl | rfl | rfl | rfl | rfl <;> simp only [md, pl, sc, dt, cC, cR, cU, iff_true] <;> omega
theorem md_le {n f i j : Nat} (hf : f < 6) (hi : i < n) (hj : j < n) (hn : n ≤ 32) : (-100 ≤ (md n f i j).1 ∧ (md n f i j).1 ≤ 100) ∧ (-100 ≤ (md n f i j).2.1 ∧ (md n f i j).2.1 ≤ 100) ∧ (-100 ≤ (md n f i j).2.2 ∧ (md n f i j).2.2 ≤ 100) := by
  rcases six hf with rfl | rfl | rfl | rfl | rfl | rfl <;> simp only [md, pl, sc, cC, cR, cU] <;> omega

/-- i and j of the cell that lies a cells ahead and b cells to the left, seen in way s -/
def atI (n s a b : Nat) : Nat := match s with | 0 => a | 1 => n - 1 - b | 2 => n - 1 - a | _ => b
def atJ (n s a b : Nat) : Nat := match s with | 0 => b | 1 => a | 2 => n - 1 - b | _ => n - 1 - a
/-- and back -/
def ah (n s i j : Nat) : Nat := match s with | 0 => i | 1 => j | 2 => n - 1 - i | _ => n - 1 - j
def lf (n s i j : Nat) : Nat := match s with | 0 => j | 1 => n - 1 - i | 2 => n - 1 - j | _ => i
theorem at_lt {n s a b : Nat} (ha : a < n) (hb : b < n) : atI n s a b < n ∧ atJ n s a b < n := by
  unfold atI atJ; split <;> omega
theorem ah_lt {n s i j : Nat} (hi : i < n) (hj : j < n) : ah n s i j < n ∧ lf n s i j < n := by
  unfold ah lf; split <;> omega
theorem at_ah {n s i j : Nat} (hs : s < 4) (hi : i < n) (hj : j < n) : atI n s (ah n s i j) (lf n s i j) = i ∧ atJ n s (ah n s i j) (lf n s i j) = j := by
  rcases four hs with rfl | rfl | rfl | rfl <;> simp only [atI, atJ, ah, lf, and_self, and_true, true_and] <;> omega
theorem ah_at {n s a b : Nat} (hs : s < 4) (ha : a < n) (hb : b < n) : ah n s (atI n s a b) (atJ n s a b) = a ∧ lf n s (atI n s a b) (atJ n s a b) = b := by
  rcases four hs with rfl | rfl | rfl | rfl <;> simp only [atI, atJ, ah, lf, and_self, and_true, true_and] <;> omega

/-- the middle, seen in way s -/
def ms (n f s a b : Nat) : P3 := pl (sc n (cC f)) (pl (sc (2 * a + 1 - n) (wy f s)) (sc (2 * b + 1 - n) (wy f ((s + 1) % 4))))
theorem md_ms {n f s a b : Nat} (hf : f < 6) (hs : s < 4) (ha : a < n) (hb : b < n) : md n f (atI n s a b) (atJ n s a b) = ms n f s a b := by
  rcases six hf with rfl | rfl | rfl | rfl | rfl | rfl <;> rcases four hs with rfl | rfl | rfl | rfl <;> simp only [md, ms, pl, sc, cC, cR, cU, wy, atI, atJ, Nat.reduceAdd, Nat.reduceMod, Prod.mk.injEq] <;> omega
/-- one step on within the face, and over its edge -/
theorem ms_step {n f s a b : Nat} (hf : f < 6) (hs : s < 4) :
    dt (pl (ms n f s a b) (wy f s)) (wy f s) = 2 * a + 2 - n ∧ pl (pl (ms n f s a b) (wy f s)) (wy f s) = ms n f s (a + 1) b := by
  rcases six hf with rfl | rfl | rfl | rfl | rfl | rfl <;> rcases four hs with rfl | rfl | rfl | rfl <;> simp only [ms, pl, sc, dt, cC, cR, cU, wy, Nat.reduceAdd, Nat.reduceMod, Prod.mk.injEq] <;> omega
theorem ms_edge {n f s a b : Nat} (hf : f < 6) (hs : s < 4) (ha : a + 1 = n) :
    pl (pl (ms n f s a b) (wy f s)) (sc (-1) (cC f)) = ms n (nf f s) (ns f s) 0 b := by
  rcases six hf with rfl | rfl | rfl | rfl | rfl | rfl <;> rcases four hs with rfl | rfl | rfl | rfl <;> simp only [ms, pl, sc, cC, cR, cU, wy, nf, ns, List.getD, List.getElem?_cons_zero, List.getElem?_cons_succ, Option.getD_some, Nat.reduceAdd, Nat.reduceMod, Prod.mk.injEq] <;> omega
theorem ro_lin (t : Nat) (p q r : P3) (x y z : Int) : ro t (pl (sc x p) (pl (sc y q) (sc z r))) = pl (sc x (ro t p)) (pl (sc y (ro t q)) (sc z (ro t r))) := by
  simp only [ro, pl, sc, Prod.mk.injEq]
  refine ⟨?_, ?_, ?_⟩ <;> simp only [Int.add_mul, Int.mul_add, Int.mul_assoc] <;> omega
theorem ro_md {n t f i j : Nat} (ht : t < 24) (hf : f < 6) (hi : i < n) (hj : j < n) : ro t (md n f i j) = md n (tf t f) (atI n (tq t f) i j) (atJ n (tq t f) i j) := by
  obtain ⟨h1, h2⟩ := tf_lt t ht f hf
  obtain ⟨a, b, c⟩ := ro_tab t ht f hf
  rw [md_ms h1 h2 hi hj]
  unfold md ms
  rw [ro_lin, a, b, c]
end Go.Proofs.YtdgkmaamjdglmaaDoor.Cu
