/-
  Package cube's calls at cells that are there: contracts.
-/
import Derived.Test.YtdgkmaamjdglmaaDoorKl
import Derived.Test.YtdgkmaamjdglmaaDoorKq
namespace Go.Proofs.YtdgkmaamjdglmaaDoor
open Go.RowKit Cu
theorem clN_nat {n : Nat} (hn : 1 ≤ n ∧ n ≤ 32) : clN n = (6 * n * n : Nat) := by
  unfold clN
  rw [if_pos (by omega)]
  simp
theorem place_ok (n c : Nat) (hn : 1 ≤ n ∧ n ≤ 32) (hc : c < 6 * n * n) (w : World) :
    Calls Tryd.prog 23 #[.int .i64 n, .int .i64 c] w fun e w' => e = .returned (.tuple #[.int .i64 (cf n c), .int .i64 (ci n c), .int .i64 (cj n c), .bool true]) ∧ ∃ k, w' = w.drewN k := by
  have h := place_at n c w
  have hin : inR c (clN n) = true := by rw [inR_iff, clN_nat hn]; omega
  rw [hin, show pF n c = (cf n c : Nat) by simp [pF, hin, cf], show pI n c = (ci n c : Nat) by simp [pI, hin, ci], show pJ n c = (cj n c : Nat) by simp [pJ, hin, cj]] at h
  exact h
theorem cN_nat {n f i j : Nat} (hn : 1 ≤ n ∧ n ≤ 32) (hf : f < 6) (hi : i < n) (hj : j < n) : cN n f i j = (nm n f i j : Nat) := by
  unfold cN
  rw [if_pos ⟨by omega, by rw [inR_iff]; omega, by rw [inR_iff]; omega, by rw [inR_iff]; omega⟩]
  simp [nm]
theorem sm_100 {p : P3} (h : (-100 ≤ p.1 ∧ p.1 ≤ 100) ∧ (-100 ≤ p.2.1 ∧ p.2.1 ≤ 100) ∧ (-100 ≤ p.2.2 ∧ p.2.2 ≤ 100)) : Sm p := by unfold Sm; omega
theorem sm_pl {p q : P3} (h : (-100 ≤ p.1 ∧ p.1 ≤ 100) ∧ (-100 ≤ p.2.1 ∧ p.2.1 ≤ 100) ∧ (-100 ≤ p.2.2 ∧ p.2.2 ≤ 100)) (k : Un q) : Sm (pl p q) := by unfold Un at k; simp only [Sm, pl]; omega
/-- BESIDE, where there is such a cell and side -/
theorem beside_at (n c s : Nat) (w : World) (hn : 1 ≤ n ∧ n ≤ 32) (hc : c < 6 * n * n) (hs : s < 4) (h : Fr w) :
    Calls Tryd.prog 9 #[.int .i64 n, .int .i64 c, .int .i64 s] w fun e w' => e = .returned (.tuple #[.int .i64 (bsC n c s), .int .i64 (bsS n c s)]) ∧ Below w.heap.size w w' := by
  obtain ⟨h1, h2, h3, h4⟩ := dec_lt hn.1 hc
  have hm := md_le h1 h2 h3 hn.2
  have he := at_ah (s := s) hs h2 h3
  have hl := ah_lt (s := s) h2 h3
  have hms : md n (cf n c) (ci n c) (cj n c) = ms n (cf n c) s (ah n s (ci n c) (cj n c)) (lf n s (ci n c) (cj n c)) := by
    have := md_ms (f := cf n c) h1 hs hl.1 hl.2
    rwa [he.1, he.2] at this
  obtain ⟨d1, d2⟩ := ms_step (n := n) (a := ah n s (ci n c) (cj n c)) (b := lf n s (ci n c) (cj n c)) h1 hs
  rw [← hms] at d1 d2
  obtain ⟨w1, w2⟩ := wy_back _ h1 s hs
  have PL := hid (place_ok n c hn hc)
  by_cases ha : ah n s (ci n c) (cj n c) + 1 < n
  · have k := at_lt (s := s) ha hl.2
    have hr := md_ms (f := cf n c) h1 hs ha hl.2
    have := beside_go n c (cf n c) (ci n c) (cj n c) s (cf n c) _ _ ((s + 2) % 4) _ _ _ _ _ w hn h1 hs h1 k.1 k.2 (by omega) h2 h3 h PL rfl rfl d1 (sm_100 hm) (sm_pl hm (un_wy h1)) hr rfl
      (Or.inl ⟨by omega, d2, w1⟩)
    rw [cN_nat hn h1 k.1 k.2] at this
    unfold bsC bsS
    rw [if_pos ha, if_pos ha]
    exact this
  · obtain ⟨n1, n2⟩ := nf_lt _ h1 s hs
    have h0 : 0 < n := by omega
    have k := at_lt (s := ns (cf n c) s) h0 hl.2
    have hr := md_ms n1 n2 h0 hl.2
    have hedge := ms_edge (n := n) (a := ah n s (ci n c) (cj n c)) (b := lf n s (ci n c) (cj n c)) h1 hs (by omega)
    rw [← hms] at hedge
    have := beside_go n c (cf n c) (ci n c) (cj n c) s (nf (cf n c) s) _ _ ((ns (cf n c) s + 2) % 4) _ _ _ _ _ w hn h1 hs n1 k.1 k.2 (by omega) h2 h3 h PL rfl rfl d1 (sm_100 hm) (sm_pl hm (un_wy h1)) hr rfl
      (Or.inr ⟨by omega, hedge, w2⟩)
    rw [cN_nat hn n1 k.1 k.2] at this
    unfold bsC bsS
    rw [if_neg ha, if_neg ha]
    exact this
/-- TURN -/
theorem turn_at (n t c : Nat) (w : World) (hn : 1 ≤ n ∧ n ≤ 32) (hc : c < 6 * n * n) (ht : t < 24) (h : Fr w) :
    Calls Tryd.prog 17 #[.int .i64 n, .int .i64 t, .int .i64 c] w fun e w' => e = .returned (.tuple #[.int .i64 (tnC n t c), .int .i64 (tnS n t c)]) ∧ Below w.heap.size w w' := by
  obtain ⟨h1, h2, h3, h4⟩ := dec_lt hn.1 hc
  obtain ⟨t1, t2⟩ := tf_lt t ht _ h1
  have k := at_lt (s := tq t (cf n c)) h2 h3
  have := turn_go n c (cf n c) (ci n c) (cj n c) t (tf t (cf n c)) _ _ (tq t (cf n c)) _ _ _ w hn h1 h2 h3 ht t1 k.1 k.2 t2 h (hid (place_ok n c hn hc)) rfl rfl (ro_md ht h1 h2 h3) rfl (ro_tab t ht _ h1).2.1
  rw [cN_nat hn t1 k.1 k.2] at this
  exact this
/-- awake -/
theorem cells_nat (n : Nat) (hn : 1 ≤ n ∧ n ≤ 32) (w : World) : Calls Tryd.prog 20 #[.int .i64 n] w fun e w' => e = .returned (.int .i64 (6 * n * n : Nat)) ∧ w' = w := by
  rw [← clN_nat hn]; exact cells_at n w
end Go.Proofs.YtdgkmaamjdglmaaDoor
