/-
  Some of the texts of this proof, one behind the other.
-/
import Derived.Test.YtgeipbegpflkhaaGreatDoorZ05
import Derived.Deep.MidRow
import Derived.Test.YtgeipbegpflkhaaGreatDoorZ04
import Derived.Maps.AppendAt
import Derived.Test.YtgeipbegpflkhaaGreatDoorZ02
import Derived.Test.YtgeipbegpflkhaaGreatDoorZ01
/-
  Rotations of package cube: contracts.
-/
namespace Go.Proofs.YtgeipbegpflkhaaGreatDoor
open Go.RowKit Cu
/-- all cells of the table -/
def frl : List Value := [.int .i64 (cC 0).1, .int .i64 (cC 0).2.1, .int .i64 (cC 0).2.2, .int .i64 (cR 0).1, .int .i64 (cR 0).2.1, .int .i64 (cR 0).2.2, .int .i64 (cU 0).1, .int .i64 (cU 0).2.1, .int .i64 (cU 0).2.2, .int .i64 (cC 1).1, .int .i64 (cC 1).2.1, .int .i64 (cC 1).2.2, .int .i64 (cR 1).1, .int .i64 (cR 1).2.1, .int .i64 (cR 1).2.2, .int .i64 (cU 1).1, .int .i64 (cU 1).2.1, .int .i64 (cU 1).2.2, .int .i64 (cC 2).1, .int .i64 (cC 2).2.1, .int .i64 (cC 2).2.2, .int .i64 (cR 2).1, .int .i64 (cR 2).2.1, .int .i64 (cR 2).2.2, .int .i64 (cU 2).1, .int .i64 (cU 2).2.1, .int .i64 (cU 2).2.2, .int .i64 (cC 3).1, .int .i64 (cC 3).2.1, .int .i64 (cC 3).2.2, .int .i64 (cR 3).1, .int .i64 (cR 3).2.1, .int .i64 (cR 3).2.2, .int .i64 (cU 3).1, .int .i64 (cU 3).2.1, .int .i64 (cU 3).2.2, .int .i64 (cC 4).1, .int .i64 (cC 4).2.1, .int .i64 (cC 4).2.2, .int .i64 (cR 4).1, .int .i64 (cR 4).2.1, .int .i64 (cR 4).2.2, .int .i64 (cU 4).1, .int .i64 (cU 4).2.1, .int .i64 (cU 4).2.2, .int .i64 (cC 5).1, .int .i64 (cC 5).2.1, .int .i64 (cC 5).2.2, .int .i64 (cR 5).1, .int .i64 (cR 5).2.1, .int .i64 (cR 5).2.2, .int .i64 (cU 5).1, .int .i64 (cU 5).2.1, .int .i64 (cU 5).2.2]
theorem fr_range {w : World} (h : Fr w) : w.rangeAt 1 0 frl := by
  intro j v hv
  rw [Nat.zero_add]
  match j, hv with
  | 0, hv => cases (show some (Value.int .i64 (cC 0).1) = some v from hv); exact (h.2 0 (by decide)).1.1
  | 1, hv => cases (show some (Value.int .i64 (cC 0).2.1) = some v from hv); exact (h.2 0 (by decide)).1.2.1
  | 2, hv => cases (show some (Value.int .i64 (cC 0).2.2) = some v from hv); exact (h.2 0 (by decide)).1.2.2
  | 3, hv => cases (show some (Value.int .i64 (cR 0).1) = some v from hv); exact (h.2 0 (by decide)).2.1.1
  | 4, hv => cases (show some (Value.int .i64 (cR 0).2.1) = some v from hv); exact (h.2 0 (by decide)).2.1.2.1
  | 5, hv => cases (show some (Value.int .i64 (cR 0).2.2) = some v from hv); exact (h.2 0 (by decide)).2.1.2.2
  | 6, hv => cases (show some (Value.int .i64 (cU 0).1) = some v from hv); exact (h.2 0 (by decide)).2.2.1
  | 7, hv => cases (show some (Value.int .i64 (cU 0).2.1) = some v from hv); exact (h.2 0 (by decide)).2.2.2.1
  | 8, hv => cases (show some (Value.int .i64 (cU 0).2.2) = some v from hv); exact (h.2 0 (by decide)).2.2.2.2
  | 9, hv => cases (show some (Value.int .i64 (cC 1).1) = some v from hv); exact (h.2 1 (by decide)).1.1
  | 10, hv => cases (show some (Value.int .i64 (cC 1).2.1) = some v from hv); exact (h.2 1 (by decide)).1.2.1
  | 11, hv => cases (show some (Value.int .i64 (cC 1).2.2) = some v from hv); exact (h.2 1 (by decide)).1.2.2
  | 12, hv => cases (show some (Value.int .i64 (cR 1).1) = some v from hv); exact (h.2 1 (by decide)).2.1.1
  | 13, hv => cases (show some (Value.int .i64 (cR 1).2.1) = some v from hv); exact (h.2 1 (by decide)).2.1.2.1
  | 14, hv => cases (show some (Value.int .i64 (cR 1).2.2) = some v from hv); exact (h.2 1 (by decide)).2.1.2.2
  | 15, hv => cases (show some (Value.int .i64 (cU 1).1) = some v from hv); exact (h.2 1 (by decide)).2.2.1
  | 16, hv => cases (show some (Value.int .i64 (cU 1).2.1) = some v from hv); exact (h.2 1 (by decide)).2.2.2.1
  | 17, hv => cases (show some (Value.int .i64 (cU 1).2.2) = some v from hv); exact (h.2 1 (by decide)).2.2.2.2
  | 18, hv => cases (show some (Value.int .i64 (cC 2).1) = some v from hv); exact (h.2 2 (by decide)).1.1
  | 19, hv => cases (show some (Value.int .i64 (cC 2).2.1) = some v from hv); exact (h.2 2 (by decide)).1.2.1
  | 20, hv => cases (show some (Value.int .i64 (cC 2).2.2) = some v from hv); exact (h.2 2 (by decide)).1.2.2
  | 21, hv => cases (show some (Value.int .i64 (cR 2).1) = some v from hv); exact (h.2 2 (by decide)).2.1.1
  | 22, hv => cases (show some (Value.int .i64 (cR 2).2.1) = some v from hv); exact (h.2 2 (by decide)).2.1.2.1
  | 23, hv => cases (show some (Value.int .i64 (cR 2).2.2) = some v from hv); exact (h.2 2 (by decide)).2.1.2.2
  | 24, hv => cases (show some (Value.int .i64 (cU 2).1) = some v from hv); exact (h.2 2 (by decide)).2.2.1
  | 25, hv => cases (show some (Value.int .i64 (cU 2).2.1) = some v from hv); exact (h.2 2 (by decide)).2.2.2.1
  | 26, hv => cases (show some (Value.int .i64 (cU 2).2.2) = some v from hv); exact (h.2 2 (by decide)).2.2.2.2
  | 27, hv => cases (show some (Value.int .i64 (cC 3).1) = some v from hv); exact (h.2 3 (by decide)).1.1
  | 28, hv => cases (show some (Value.int .i64 (cC 3).2.1) = some v from hv); exact (h.2 3 (by decide)).1.2.1
  | 29, hv => cases (show some (Value.int .i64 (cC 3).2.2) = some v from hv); exact (h.2 3 (by decide)).1.2.2
  | 30, hv => cases (show some (Value.int .i64 (cR 3).1) = some v from hv); exact (h.2 3 (by decide)).2.1.1
  | 31, hv => cases (show some (Value.int .i64 (cR 3).2.1) = some v from hv); exact (h.2 3 (by decide)).2.1.2.1
  | 32, hv => cases (show some (Value.int .i64 (cR 3).2.2) = some v from hv); exact (h.2 3 (by decide)).2.1.2.2
  | 33, hv => cases (show some (Value.int .i64 (cU 3).1) = some v from hv); exact (h.2 3 (by decide)).2.2.1
  | 34, hv => cases (show some (Value.int .i64 (cU 3).2.1) = some v from hv); exact (h.2 3 (by decide)).2.2.2.1
  | 35, hv => cases (show some (Value.int .i64 (cU 3).2.2) = some v from hv); exact (h.2 3 (by decide)).2.2.2.2
  | 36, hv => cases (show some (Value.int .i64 (cC 4).1) = some v from hv); exact (h.2 4 (by decide)).1.1
  | 37, hv => cases (show some (Value.int .i64 (cC 4).2.1) = some v from hv); exact (h.2 4 (by decide)).1.2.1
  | 38, hv => cases (show some (Value.int .i64 (cC 4).2.2) = some v from hv); exact (h.2 4 (by decide)).1.2.2
  | 39, hv => cases (show some (Value.int .i64 (cR 4).1) = some v from hv); exact (h.2 4 (by decide)).2.1.1
  | 40, hv => cases (show some (Value.int .i64 (cR 4).2.1) = some v from hv); exact (h.2 4 (by decide)).2.1.2.1
  | 41, hv => cases (show some (Value.int .i64 (cR 4).2.2) = some v from hv); exact (h.2 4 (by decide)).2.1.2.2
  | 42, hv => cases (show some (Value.int .i64 (cU 4).1) = some v from hv); exact (h.2 4 (by decide)).2.2.1
  | 43, hv => cases (show some (Value.int .i64 (cU 4).2.1) = some v from hv); exact (h.2 4 (by decide)).2.2.2.1
  | 44, hv => cases (show some (Value.int .i64 (cU 4).2.2) = some v from hv); exact (h.2 4 (by decide)).2.2.2.2
  | 45, hv => cases (show some (Value.int .i64 (cC 5).1) = some v from hv); exact (h.2 5 (by decide)).1.1
  | 46, hv => cases (show some (Value.int .i64 (cC 5).2.1) = some v from hv); exact (h.2 5 (by decide)).1.2.1
  | 47, hv => cases (show some (Value.int .i64 (cC 5).2.2) = some v from hv); exact (h.2 5 (by decide)).1.2.2
  | 48, hv => cases (show some (Value.int .i64 (cR 5).1) = some v from hv); exact (h.2 5 (by decide)).2.1.1
  | 49, hv => cases (show some (Value.int .i64 (cR 5).2.1) = some v from hv); exact (h.2 5 (by decide)).2.1.2.1
  | 50, hv => cases (show some (Value.int .i64 (cR 5).2.2) = some v from hv); exact (h.2 5 (by decide)).2.1.2.2
  | 51, hv => cases (show some (Value.int .i64 (cU 5).1) = some v from hv); exact (h.2 5 (by decide)).2.2.1
  | 52, hv => cases (show some (Value.int .i64 (cU 5).2.1) = some v from hv); exact (h.2 5 (by decide)).2.2.2.1
  | 53, hv => cases (show some (Value.int .i64 (cU 5).2.2) = some v from hv); exact (h.2 5 (by decide)).2.2.2.2
  | j + 54, hv => cases (show none = some v from hv)
theorem frl_size : frl.length = 54 := rfl
/-- the faces at right angles to face F, of the first k -/
def acL (F : Nat) : Nat → List Value
  | 0 => []
  | k + 1 => acL F k ++ (if dt (cC k) (cC F) = 0 then [.int .i64 (cC k).1, .int .i64 (cC k).2.1, .int .i64 (cC k).2.2] else [])
def acN (F : Nat) : Nat → Nat
  | 0 => 0
  | k + 1 => acN F k + (if dt (cC k) (cC F) = 0 then 1 else 0)
theorem acN_le (F k : Nat) : acN F k ≤ k := by
  induction k with
  | zero => simp [acN]
  | succ k ih => simp only [acN]; split <;> omega
theorem acN_six : ∀ F < 6, acN F 6 = 4 := by decide +kernel
theorem acL_six : ∀ F < 6, acL F 6 = (List.range 4).flatMap fun k => [.int .i64 (cC (prp F k)).1, .int .i64 (cC (prp F k)).2.1, .int .i64 (cC (prp F k)).2.2] := by
  intro F hF
  rcases six hF with rfl | rfl | rfl | rfl | rfl | rfl <;> rfl
theorem acL_get {F k : Nat} (hF : F < 6) (hk : k < 4) : (acL F 6)[k * 3]? = some (.int .i64 (cC (prp F k)).1) ∧ (acL F 6)[k * 3 + 1]? = some (.int .i64 (cC (prp F k)).2.1) ∧ (acL F 6)[k * 3 + 2]? = some (.int .i64 (cC (prp F k)).2.2) := by
  rcases six hF with rfl | rfl | rfl | rfl | rfl | rfl <;> rcases four hk with rfl | rfl | rfl | rfl <;> exact ⟨rfl, rfl, rfl⟩
theorem set9 {W w : World} {g : Nat} {x0 x1 x2 x3 x4 x5 x6 x7 x8 : Value} {T : TypeId} (h : Abx W g 9 T w) :
    (((((((((w.setCell ⟨g, 0, none⟩ x0).setCell ⟨g, 1, none⟩ x1).setCell ⟨g, 2, none⟩ x2).setCell ⟨g, 3, none⟩ x3).setCell ⟨g, 4, none⟩ x4).setCell ⟨g, 5, none⟩ x5).setCell ⟨g, 6, none⟩ x6).setCell ⟨g, 7, none⟩ x7).setCell ⟨g, 8, none⟩ x8).heap[g]? = some (.cells #[x0, x1, x2, x3, x4, x5, x6, x7, x8] T) := by
  obtain ⟨_, cs, h6, h⟩ := h
  obtain ⟨a, b, c, d, e, f, i, j, k, rfl⟩ : ∃ a b c d e f i j k, cs = #[a, b, c, d, e, f, i, j, k] := by
    rcases cs with ⟨l⟩
    match l, h6 with
    | [a, b, c, d, e, f, i, j, k], _ => exact ⟨a, b, c, d, e, f, i, j, k, rfl⟩
  have h10 := one_set (v := x0) (k := 0) h
  have h11 := one_set (v := x1) (k := 1) h10
  have h12 := one_set (v := x2) (k := 2) h11
  have h13 := one_set (v := x3) (k := 3) h12
  have h14 := one_set (v := x4) (k := 4) h13
  have h15 := one_set (v := x5) (k := 5) h14
  have h16 := one_set (v := x6) (k := 6) h15
  have h17 := one_set (v := x7) (k := 7) h16
  have h18 := one_set (v := x8) (k := 8) h17
  simpa using h18
theorem info_pt3 : (Tryz.prog.info? 117).map (fun i => (i.zero, i.size, i.bytes)) = some (some (.agg #[.int .i64 0, .int .i64 0, .int .i64 0]), 3, 24) := by kernel_rfl
end Go.Proofs.YtgeipbegpflkhaaGreatDoor

/-
  What a rotation makes of a point, and of a rotation: contracts.
-/
namespace Go.Proofs.YtgeipbegpflkhaaGreatDoor
open Go.RowKit Cu
/-- where a rotation takes a point -/
def app (X Y Z p : P3) : P3 := pl (pl (sc p.1 X) (sc p.2.1 Y)) (sc p.2.2 Z)
theorem ro_app (t : Nat) (p : P3) : ro t p = app (rX t) (rY t) (rZ t) p := rfl
theorem Un.le {p : P3} (h : Un p) : (-1000 ≤ p.1 ∧ p.1 ≤ 1000) ∧ (-1000 ≤ p.2.1 ∧ p.2.1 ≤ 1000) ∧ (-1000 ≤ p.2.2 ∧ p.2.2 ≤ 1000) := by unfold Un at h; omega
end Go.Proofs.YtgeipbegpflkhaaGreatDoor

/-
  Turns of a cell, and turns one behind the other: contracts.
-/
namespace Go.Proofs.YtgeipbegpflkhaaGreatDoor
open Go.RowKit Cu
theorem un_rX : ∀ t < 24, ((-1 ≤ (rX t).1 ∧ (rX t).1 ≤ 1) ∧ (-1 ≤ (rX t).2.1 ∧ (rX t).2.1 ≤ 1) ∧ (-1 ≤ (rX t).2.2 ∧ (rX t).2.2 ≤ 1)) := by decide +kernel
theorem un_rY : ∀ t < 24, ((-1 ≤ (rY t).1 ∧ (rY t).1 ≤ 1) ∧ (-1 ≤ (rY t).2.1 ∧ (rY t).2.1 ≤ 1) ∧ (-1 ≤ (rY t).2.2 ∧ (rY t).2.2 ≤ 1)) := by decide +kernel
theorem un_rZ : ∀ t < 24, ((-1 ≤ (rZ t).1 ∧ (rZ t).1 ≤ 1) ∧ (-1 ≤ (rZ t).2.1 ∧ (rZ t).2.1 ≤ 1) ∧ (-1 ≤ (rZ t).2.2 ∧ (rZ t).2.2 ≤ 1)) := by decide +kernel
end Go.Proofs.YtgeipbegpflkhaaGreatDoor

/-
  Package cube's calls at cells that are there: contracts.
-/
namespace Go.Proofs.YtgeipbegpflkhaaGreatDoor
open Go.RowKit Cu
theorem clN_nat {n : Nat} (hn : 1 ≤ n ∧ n ≤ 32) : clN n = (6 * n * n : Nat) := by
  unfold clN
  rw [if_pos (by omega)]
  simp
theorem place_ok (n c : Nat) (hn : 1 ≤ n ∧ n ≤ 32) (hc : c < 6 * n * n) (w : World) :
    Calls Tryz.prog 79 #[.int .i64 n, .int .i64 c] w fun e w' => e = .returned (.tuple #[.int .i64 (cf n c), .int .i64 (ci n c), .int .i64 (cj n c), .bool true]) ∧ ∃ k, w' = w.drewN k := by
  have h := place_at n c w
  have hin : inR c (clN n) = true := by rw [inR_iff, clN_nat hn]; omega
  rw [hin, show pF n c = (cf n c : Nat) by simp [pF, hin, cf], show pI n c = (ci n c : Nat) by simp [pI, hin, ci], show pJ n c = (cj n c : Nat) by simp [pJ, hin, cj]] at h
  exact h
theorem cN_nat {n f i j : Nat} (hn : 1 ≤ n ∧ n ≤ 32) (hf : f < 6) (hi : i < n) (hj : j < n) : cN n f i j = (nm n f i j : Nat) := by
  unfold cN
  rw [if_pos ⟨by omega, by rw [inR_iff]; omega, by rw [inR_iff]; omega, by rw [inR_iff]; omega⟩]
  simp [nm]
theorem sm_100 {p : P3} (h : (-100 ≤ p.1 ∧ p.1 ≤ 100) ∧ (-100 ≤ p.2.1 ∧ p.2.1 ≤ 100) ∧ (-100 ≤ p.2.2 ∧ p.2.2 ≤ 100)) : Sm p := by unfold Sm; omega
theorem sm_pl {p q : P3} (h : (-100 ≤ p.1 ∧ p.1 ≤ 100) ∧ (-100 ≤ p.2.1 ∧ p.2.1 ≤ 100) ∧ (-100 ≤ p.2.2 ∧ p.2.2 ≤ 100)) (k : Un q) : Sm (pl p q) := by unfold Un at k; simp only [Sm, pl]; omega
/-- BESIDE, where there is such a cell and side -/
theorem beside_at (n c s : Nat) (w : World) (hn : 1 ≤ n ∧ n ≤ 32) (hc : c < 6 * n * n) (hs : s < 4) (h : Fr w) :
    Calls Tryz.prog 47 #[.int .i64 n, .int .i64 c, .int .i64 s] w fun e w' => e = .returned (.tuple #[.int .i64 (bsC n c s), .int .i64 (bsS n c s)]) ∧ Below w.heap.size w w' := by
  obtain ⟨h1, h2, h3, h4⟩ := dec_lt hn.1 hc
  have hm := md_le h1 h2 h3 hn.2
  have he := at_ah (s := s) hs h2 h3
  have hl := ah_lt (s := s) h2 h3
  have hms : md n (cf n c) (ci n c) (cj n c) = ms n (cf n c) s (ah n s (ci n c) (cj n c)) (lf n s (ci n c) (cj n c)) := by
    have := md_ms (f := cf n c) h1 hs hl.1 hl.2
    rwa [he.1, he.2] at this
  obtain ⟨d1, d2⟩ := ms_step (n := n) (a := ah n s (ci n c) (cj n c)) (b := lf n s (ci n c) (cj n c)) h1 hs
  rw [← hms] at d1 d2
  obtain ⟨w1, w2⟩ := wy_back _ h1 s hs
  have PL := hid (place_ok n c hn hc)
  by_cases ha : ah n s (ci n c) (cj n c) + 1 < n
  · have k := at_lt (s := s) ha hl.2
    have hr := md_ms (f := cf n c) h1 hs ha hl.2
    have := beside_go n c (cf n c) (ci n c) (cj n c) s (cf n c) _ _ ((s + 2) % 4) _ _ _ _ _ w hn h1 hs h1 k.1 k.2 (by omega) h2 h3 h PL rfl rfl d1 (sm_100 hm) (sm_pl hm (un_wy h1)) hr rfl
      (Or.inl ⟨by omega, d2, w1⟩)
    rw [cN_nat hn h1 k.1 k.2] at this
    unfold bsC bsS
    rw [if_pos ha, if_pos ha]
    exact this
  · obtain ⟨n1, n2⟩ := nf_lt _ h1 s hs
    have h0 : 0 < n := by omega
    have k := at_lt (s := ns (cf n c) s) h0 hl.2
    have hr := md_ms n1 n2 h0 hl.2
    have hedge := ms_edge (n := n) (a := ah n s (ci n c) (cj n c)) (b := lf n s (ci n c) (cj n c)) h1 hs (by omega)
    rw [← hms] at hedge
    have := beside_go n c (cf n c) (ci n c) (cj n c) s (nf (cf n c) s) _ _ ((ns (cf n c) s + 2) % 4) _ _ _ _ _ w hn h1 hs n1 k.1 k.2 (by omega) h2 h3 h PL rfl rfl d1 (sm_100 hm) (sm_pl hm (un_wy h1)) hr rfl
      (Or.inr ⟨by omega, hedge, w2⟩)
    rw [cN_nat hn n1 k.1 k.2] at this
    unfold bsC bsS
    rw [if_neg ha, if_neg ha]
    exact this
/-- awake -/
theorem cells_nat (n : Nat) (hn : 1 ≤ n ∧ n ≤ 32) (w : World) : Calls Tryz.prog 16 #[.int .i64 n] w fun e w' => e = .returned (.int .i64 (6 * n * n : Nat)) ∧ w' = w := by
  rw [← clN_nat hn]; exact cells_at n w
end Go.Proofs.YtgeipbegpflkhaaGreatDoor

/-
  The edges of a net are laid: walk over the program.
-/
namespace Go.Proofs.YtgeipbegpflkhaaGreatDoor
open Go.RowKit Cu
/-- a net with the edges of T sides -/
def GE (B n T gb mb : Nat) (es v3 v4 v5 v6 : Value) (w : World) : Prop :=
  w.heap[gb]? = some (.cells #[.int .i64 n, es, .map (some mb), v3, v4, v5, v6] 55) ∧ w.ownsRow B 70 4 es (eN n T) (edL n T) ∧ MapIs w mb (2 * T) (gT n T) ∧ (B ≤ gb ∧ B ≤ mb ∧ gb ≠ mb) ∧ es.ownBlock ≠ some gb ∧ es.ownBlock ≠ some mb
theorem GE.to {B n T gb mb : Nat} {es v3 v4 v5 v6 : Value} {w w' : World} (h : GE B n T gb mb es v3 v4 v5 v6 w) (a : Ab w w') : GE B n T gb mb es v3 v4 v5 v6 w' := by
  obtain ⟨h1, h2, h3, h4, h5⟩ := h
  refine ⟨a.heap h1, ?_, h3.block (Below.block a _ h3.lt), h4, h5⟩
  exact h2.kept (row := none) ⟨Below.os a, Below.tape a, Below.output a, Below.size a, fun k hk _ => Below.block a k hk⟩ (by cases es.ownBlock <;> simp)
theorem GE.cells {B n T gb mb : Nat} {es v3 v4 v5 v6 : Value} {w : World} (h : GE B n T gb mb es v3 v4 v5 v6 w) :
    w.cell? ⟨gb, 0, none⟩ = some (.int .i64 n) ∧ w.cell? ⟨gb, 1, none⟩ = some es ∧ w.cell? ⟨gb, 2, none⟩ = some (.map (some mb)) ∧ w.frozen? ⟨gb, 1, none⟩ = false :=
  ⟨cell_of_row _ _ 0 _ _ _ h.1, cell_of_row _ _ 1 _ _ _ h.1, cell_of_row _ _ 2 _ _ _ h.1, free_row h.1 1⟩
theorem GE.sl {B n T gb mb : Nat} {es v3 v4 v5 v6 : Value} {w : World} (h : GE B n T gb mb es v3 v4 v5 v6 w) : ∃ a0 cap, es = .slice a0 (eN n T) cap := by
  rcases h.2.1.2 with ⟨rfl, h0⟩ | ⟨g, cap, cur, rfl, _⟩
  · exact ⟨none, 0, by rw [h0]⟩
  · exact ⟨_, cap, rfl⟩
/-- what the two stores into the map leave -/
theorem GE.maps {B n T gb mb : Nat} {es v3 v4 v5 v6 : Value} {w1 w2 w3 : World} (h : GE B n T gb mb es v3 v4 v5 v6 w1) (g1 : w1.grownBy w2 (some mb)) (g2 : w2.grownBy w3 (some mb)) :
    w3.heap[gb]? = some (.cells #[.int .i64 n, es, .map (some mb), v3, v4, v5, v6] 55) ∧ w3.ownsRow B 70 4 es (eN n T) (edL n T) := by
  obtain ⟨h1, h2, h3, h4, h5⟩ := h
  have g := g1.trans g2
  exact ⟨(g.block gb (lt_of_block h1) (by simp; omega)).trans h1, h2.kept g (.inr h5.2)⟩
theorem grown_drew {w w' : World} {r : Option Nat} (h : w.drew.grownBy w' r) : w.grownBy w' r := ⟨h.os, h.tape, h.output, h.size, h.block⟩
theorem own_slice {w : World} {B : Nat} {e : TypeId} {sz k : Nat} {v : Value} {xs : List Value} (h : w.ownsRow B e sz v k xs) : ∃ a0 cap, v = .slice a0 k cap := by
  rcases h.2 with ⟨rfl, h0⟩ | ⟨g, cap, cur, rfl, _⟩
  · exact ⟨none, 0, by rw [h0]⟩
  · exact ⟨_, cap, rfl⟩
theorem row_after {w3 w5 : World} {o o' : Obj} {gb : Nat} {v : Value} (h : w3.heap[gb]? = some o) (hne : v.ownBlock ≠ some gb) (hg : (w3.alloc o').grownBy w5 v.ownBlock) : w5.heap[gb]? = some o :=
  (hg.block gb (by have := lt_of_block h; simp; omega) (fun e => hne e.symm)).trans ((Below.heap_alloc _ _ _ (lt_of_block h)).trans h)
theorem cell_four_new (w : World) (a b c d : Value) (t : TypeId) : ∀ j u, [a, b, c, d][j]? = some u → (w.alloc (.cells #[a, b, c, d] t)).cell? ((⟨w.heap.size, 0, none⟩ : Addr).add j) = some u := by
  intro j u hj
  have ha : (⟨w.heap.size, 0, none⟩ : Addr).add j = ⟨w.heap.size, j, none⟩ := by unfold Addr.add; split <;> simp_all
  rw [ha, cell_of_row _ _ j _ _ (0, 0) (heap_alloc_new w _)]
  simpa using hj
theorem GE.next {B n T gb mb : Nat} {es v v3 v4 v5 v6 : Value} {o' : Obj} {w1 w3 w5 : World} (hn : 1 ≤ n) (hT : T < 24 * n * n) (hl : isL n T = true) (G : GE B n T gb mb es v3 v4 v5 v6 w1) (hm : w1.grownBy w3 (some mb)) (hg : (w3.alloc o').grownBy w5 es.ownBlock)
    (R5 : w5.heap[gb]? = some (.cells #[.int .i64 n, es, .map (some mb), v3, v4, v5, v6] 55)) (ho : w5.ownsRow B 70 4 v (eN n T + 1) (edL n T ++ edV n T)) (hat : v.ownBlock = es.ownBlock ∨ v.ownBlock = some (w3.alloc o').heap.size)
    (M : MapIs w3 mb (2 * T + 1 + 1) (fun c s => if c = (bsC n (T / 4) (T % 4) : Nat) ∧ s = (bsS n (T / 4) (T % 4) : Nat) then (((eN n T : Nat) : Int), -1) else if c = (T / 4 : Nat) ∧ s = (T % 4 : Nat) then (((eN n T : Nat) : Int), 1) else gT n T c s)) :
    GE B n (T + 1) gb mb v v3 v4 v5 v6 (w5.setCell ⟨gb, 1, none⟩ v) := by
  obtain ⟨g1, g2, g3, g4, g5, g6⟩ := G
  have l1 := lt_of_block g1
  have l3 := hm.size
  have lm := M.lt
  have ne1 : v.ownBlock ≠ some gb := by
    rcases hat with h | h
    · rw [h]; exact g5
    · rw [h]; simp; omega
  have ne2 : v.ownBlock ≠ some mb := by
    rcases hat with h | h
    · rw [h]; exact g6
    · rw [h]; simp; omega
  have gs : w5.grownBy (w5.setCell ⟨gb, 1, none⟩ v) (some gb) := ⟨rfl, rfl, rfl, by simp [World.setCell], fun k _ hk => Below.heap_setCell _ _ _ _ (by simpa using hk)⟩
  refine ⟨?_, ?_, ?_, g4, ne1, ne2⟩
  · have := one_set (v := v) (k := 1) R5
    simpa using this
  · have h := ho.kept gs (.inr ne1)
    rw [← eN_step hl, ← edL_step hl] at h
    exact h
  · have e : (w5.setCell ⟨gb, 1, none⟩ v).heap[mb]? = w3.heap[mb]? :=
      (gs.block mb (by have := hg.size; simp at this; omega) (by simp; omega)).trans ((hg.block mb (by simp; omega) (fun e => g6 e.symm)).trans (Below.heap_alloc _ _ _ lm))
    have h := (M.block e).congr (fun c s _ _ => gT_step hn hT hl c s)
    exact h.mono (by omega)
theorem infoEdge : (Tryz.prog.info? 70).map (fun i => (i.zero, i.size, i.bytes)) = some (some (.agg #[.int .i64 0, .int .i64 0, .int .i64 0, .int .i64 0]), 4, 32) := by kernel_rfl
set_option maxRecDepth 100000 in
set_option maxHeartbeats 8000000 in
theorem addEdges_at (n N gb mb : Nat) (v3 v4 v5 v6 : Value) (w0 w : World) (hn : 1 ≤ n ∧ n ≤ 32) (hN : N = 6 * n * n) (hF : Fr w0) (A : Ab w0 w) (G : GE w0.heap.size n 0 gb mb (.slice none 0 0) v3 v4 v5 v6 w) :
    Calls Tryz.prog 17 #[.pointer (some ⟨gb, 0, none⟩), .int .i64 N] w fun e w' => e = .returned (.tuple #[]) ∧ Ab w0 w' ∧ ∃ es, GE w0.heap.size n (24 * n * n) gb mb es v3 v4 v5 v6 w' := by
  have HF := hid hF
  have HG := hid G
  have HA := hid A
  have HN := hid hN
  have HL : Hid (N ≤ 6144) := by
    show N ≤ 6144
    rw [hN, Nat.mul_assoc]
    have := Nat.mul_le_mul hn.2 hn.2
    omega
  have HE : Hid (24 * n * n = 4 * N) := by
    show 24 * n * n = 4 * N
    rw [hN, show 24 = 4 * 6 from rfl, Nat.mul_assoc 4 6 n, Nat.mul_assoc 4 (6 * n) n]
  obtain ⟨i0, hi, hz0, hz1, hz2⟩ := info_parts infoEdge
  have HI := hid (And.intro hi (And.intro hz0 (And.intro hz1 hz2)))
  have Hn := hid hn
  clear hF G A hN hi hz0 hz1 hz2 hn
  have hN' : (N : Int) ≤ 6144 := by have := HL.out; omega
  go_enter Tryz.func17, Tryz.ntmps17
  go_wp2
  go_loopw [9] (fun iv wr => ∃ c : Nat, c ≤ N ∧ iv = .int .i64 (c : Nat) ∧ Ab w0 wr ∧ ∃ es, GE w0.heap.size n (4 * c) gb mb es v3 v4 v5 v6 wr) (fun iv _ => N - (intOf iv).toNat)
  case atStart => exact ⟨0, by omega, rfl, HA.out, _, HG.out⟩
  case round =>
    obtain ⟨c, hc, rfl, A, es, G⟩ := hrel
    have A1 := hid A
    have G1 := hid G
    clear A G HG HA
    by_cases hcN : c < N
    · have hcN' : (c : Int) < N := by omega
      go_wp2
      go_loopw [12] (fun iv wr => ∃ s : Nat, s ≤ 4 ∧ iv = .int .i64 (s : Nat) ∧ Ab w0 wr ∧ ∃ es, GE w0.heap.size n (4 * c + s) gb mb es v3 v4 v5 v6 wr) (fun iv _ => 4 - (intOf iv).toNat)
      case atStart => exact ⟨0, by omega, rfl, A1.out, es, G1.out⟩
      case round =>
        clear A1 G1
        obtain ⟨s, hs, rfl, A, es', G⟩ := hrel
        by_cases hs4 : s < 4
        · have hs4' : (s : Int) < 4 := by omega
          obtain ⟨a0, cap, rfl⟩ := G.sl
          obtain ⟨c0, c1, c2, c3⟩ := G.cells
          have hc6 : c < 6 * n * n := by rw [← HN.out]; exact hcN
          have BE := hid (beside_at n c s wr Hn.out hc6 hs4 (HF.out.to A))
          have AA := hid A
          have GG := hid G
          have HT := hid (t_lt hc6 hs4)
          obtain ⟨d6, b4⟩ := bs_lt Hn.out.1 hc6 hs4
          have hd6 : bsC n c s < 6144 := by have := HL.out; rw [HN.out] at this; omega
          have hT4 := hid (t_dec (c := c) hs4)
          have hlis : Hid (isL n (4 * c + s) = decide (c < bsC n c s)) := by show isL n (4 * c + s) = _; unfold isL; rw [hT4.out.1, hT4.out.2]
          have hKle : Hid (eN n (4 * c + s) ≤ 12 * n * n) := by
            have := eN_mono (n := n) (Nat.le_of_lt HT.out); rw [eN_all Hn.out.1] at this; exact this
          have hKb : eN n (4 * c + s) ≤ 12288 := by
            have h1 := hKle.out; have h2 := HE.out; have h3 := HL.out
            have : 2 * (12 * n * n) = 24 * n * n := by rw [show 24 = 2 * 12 from rfl, Nat.mul_assoc 2 12 n, Nat.mul_assoc 2 (12 * n) n]
            omega
          obtain ⟨d, hd⟩ : ∃ d, bsC n c s = d := ⟨_, rfl⟩
          obtain ⟨b, hb⟩ : ∃ b, bsS n c s = b := ⟨_, rfl⟩
          obtain ⟨K, hK⟩ : ∃ K, eN n (4 * c + s) = K := ⟨_, rfl⟩
          rw [hd, hb] at BE
          rw [hd] at hlis d6 hd6
          rw [hb] at b4
          rw [hK] at hKb c1
          have GG' : Hid (GE w0.heap.size n (4 * c + s) gb mb (.slice a0 K cap) v3 v4 v5 v6 wr) := by rw [← hK]; exact GG.out
          have HD := hid (And.intro hd (And.intro hb hK))
          clear A G GG hd hb hK hKle hc6
          go_wp2_with fail
          refine BE.out.mono ?_
          rintro e w1 ⟨rfl, b1⟩
          have A2 : Hid (Ab w0 w1) := AA.out.call b1
          have G2 : Hid (GE w0.heap.size n (4 * c + s) gb mb (.slice a0 K cap) v3 v4 v5 v6 w1) := GG'.out.to b1
          clear c0 c1 c2 c3 AA GG' b1 BE
          by_cases hl : c < d
          · have hl' : (c : Int) < d := by omega
            have hisL : Hid (isL n (4 * c + s) = true) := by show _ = _; rw [hlis.out]; simp [hl]
            obtain ⟨w2, hu1, M1, g1⟩ := (G2.out.2.2.1.block (w' := w1.drew) rfl).upd (c := c) (s := s) (x := K) (y := 1) (by have := HL.out; have := HT.out; have := HE.out; omega) (by unfold W64; have := HL.out; omega) (by unfold W64; omega)
            obtain ⟨w3, hu2, M2, g2⟩ := (M1.block (w' := w2.drew) rfl).upd (c := d) (s := b) (x := K) (y := -1) (by have := HL.out; have := HT.out; have := HE.out; omega) (by unfold W64; omega) (by unfold W64; omega)
            replace g1 := grown_drew g1
            replace g2 := grown_drew g2
            obtain ⟨c0, c1, c2, c3⟩ := G2.out.cells
            have GM := hid (G2.out.maps g1 g2)
            have d1 : w2.cell? ⟨gb, 1, none⟩ = some (.slice a0 K cap) := g1.cell c1 (by have := G2.out.2.2.2.1.2.2; simp; omega)
            have d2 : w2.cell? ⟨gb, 2, none⟩ = some (.map (some mb)) := g1.cell c2 (by have := G2.out.2.2.2.1.2.2; simp; omega)
            have M2' := hid M2
            have g12 := hid (And.intro g1 g2)
            clear M1 M2 g1 g2
            go_upto_region 8 with fail
            go_region
            go_upto_region 9 with fail
            go_region
            clear c0 c1 c2 c3 d1 d2 hu1 hu2
            have c1 : w3.cell? ⟨gb, 1, none⟩ = some (.slice a0 K cap) := cell_of_row _ _ 1 _ _ _ GM.out.1
            have OW : Hid (w3.ownsRow w0.heap.size 70 4 (.slice a0 K cap) K (edL n (4 * c + s))) := by have h := GM.out.2; rw [HD.out.2.2] at h; exact h
            have A3 : Hid (Ab w0 w3) := (A2.out.grown (g12.out.1.trans g12.out.2) (Ab.size A2.out) (fun k hk => by cases hk; exact G2.out.2.2.2.1.2.1))
            obtain ⟨hi, hz0, hz1, hz2⟩ := HI.out
            go_upto_region 10 with fail
            go_wp2_with (first
              | (at_builtin; refine wpList_append_own_at _ rfl _ _ 52 rfl w0.heap.size 70 i0 (.agg #[.int .i64 0, .int .i64 0, .int .i64 0, .int .i64 0]) 4 32 Tryz.underlying52 hi hz0 hz1 hz2 rfl (by decide) _ _ _ rfl (OW.out.alloc _) ⟨w3.heap.size, 0, none⟩ 1 1 [.int .i64 c, .int .i64 s, .int .i64 d, .int .i64 b] rfl rfl (cell_four_new _ _ _ _ _ _) (by simp [Value.oneCell']) (by unfold maxLen; omega) (by omega) (by have := Ab.size A3.out; simp; omega) ?_; intro v' w5 ho hg _ hat; obtain ⟨a1, cap1, rfl⟩ := own_slice ho; have R5 := hid (row_after GM.out.1 G2.out.2.2.2.2.1 hg); have f1 := free_row R5.out 1; have x1 := cell_of_row _ _ 1 _ _ _ R5.out; have HO := hid (And.intro ho (And.intro hg hat)); clear ho hg hat))
            go_roundw
            case rel =>
              have hT := HT.out
              refine ⟨s + 1, by omega, by simp, ?_, (.slice a1 (K + 1) cap1), ?_⟩
              · exact Ab.setk (Below.grown (A3.out.alloc (.cells #[.int .i64 c, .int .i64 s, .int .i64 d, .int .i64 b] 70)) HO.out.2.1 (Ab.size (A3.out.alloc _)) (fun k hk => (OW.out.lt k hk).1)) G2.out.2.2.2.1.1 _
              · have e1 := hT4.out.1
                have e2 := hT4.out.2
                have e3 := HD.out
                have hed : edV n (4 * c + s) = [.int .i64 c, .int .i64 s, .int .i64 d, .int .i64 b] := by unfold edV; rw [e1, e2, e3.1, e3.2.1]
                refine GE.next (T := 4 * c + s) Hn.out.1 hT hisL.out G2.out (g12.out.1.trans g12.out.2) HO.out.2.1 R5.out ?_ HO.out.2.2 ?_
                · rw [hed, e3.2.2]; exact HO.out.1
                · rw [e1, e2, e3.1, e3.2.1, e3.2.2]; exact M2'.out
            case measure => simp [intOf]; omega
          · have hl' : ¬ (c : Int) < d := by omega
            have hisL : Hid (isL n (4 * c + s) = false) := by show _ = _; rw [hlis.out]; simp [hl]
            go_wp2
            go_roundw
            case rel =>
              refine ⟨s + 1, by omega, by simp, A2.out, (.slice a0 K cap), ?_⟩
              have g := G2.out
              have hh := hisL.out
              show GE w0.heap.size n (4 * c + s + 1) gb mb (.slice a0 K cap) v3 v4 v5 v6 w1
              exact ⟨g.1, by rw [eN_stay hh, edL_stay hh]; exact g.2.1, (g.2.2.1.congr (fun c' s' _ _ => gT_stay Hn.out.1 hh c' s')).mono (by omega), g.2.2.2⟩
            case measure => simp [intOf]; omega
        · obtain rfl : s = 4 := by omega
          have AA := hid A
          have GG := hid G
          clear A G
          go_wp2
          go_roundw
          case rel => exact ⟨c + 1, by omega, by simp, AA.out, _, GG.out⟩
          case measure => simp [intOf]; omega
    · obtain rfl : c = N := by omega
      go_wp2
      go_end0
      exact ⟨rfl, A1.out, es, by rw [HE.out]; exact G1.out⟩
end Go.Proofs.YtgeipbegpflkhaaGreatDoor

/-
  Vectors by plain numbers: differences, products, lengths, quotients (no program).
-/
namespace Go.Proofs.YtgeipbegpflkhaaGreatDoor
open Tf Ieee

theorem tri {a b : Nat} (ha : a < 18446744073709551616) (hb : b < 18446744073709551616) : (key a < key b ∧ ¬ key b < key a) ∨ a = b ∨ (key b < key a ∧ ¬ key a < key b) := by
  rcases Nat.lt_trichotomy (key a) (key b) with h | h | h
  · exact .inl ⟨h, by omega⟩
  · exact .inr (.inl (key_inj ha hb h))
  · exact .inr (.inr ⟨h, by omega⟩)
theorem thB_23 {a b c : Nat} (ha : a < 18446744073709551616) (hb : b < 18446744073709551616) (hc : c < 18446744073709551616) : thB a b c = thB a c b := by
  rcases tri ha hb with ⟨h1, h1'⟩ | h1 | ⟨h1, h1'⟩ <;> rcases tri ha hc with ⟨h2, h2'⟩ | h2 | ⟨h2, h2'⟩ <;> rcases tri hb hc with ⟨h3, h3'⟩ | h3 | ⟨h3, h3'⟩
  all_goals first
    | (exfalso; omega)
    | (clear ha hb hc; simp [thB, loB, hiB, *]; done)
    | (clear ha hb hc; subst_vars; first | rfl | (simp [thB, loB, hiB, *]; done))
/-- the three in order -/
theorem th_perm (a b c : Nat) : ∃ u v z, thB a b c = plB (plB u v) z ∧ ((u = a ∧ v = b ∧ z = c) ∨ (u = a ∧ v = c ∧ z = b) ∨ (u = b ∧ v = a ∧ z = c) ∨ (u = b ∧ v = c ∧ z = a) ∨ (u = c ∧ v = a ∧ z = b) ∨ (u = c ∧ v = b ∧ z = a)) := by
  unfold thB
  by_cases k1 : key b < key a
  · have lk1 : loB a b = b := by unfold loB; rw [if_pos k1]
    have gk1 : hiB a b = a := by unfold hiB; rw [if_pos k1]
    rw [lk1, gk1]
    by_cases k2 : key c < key a
    · have lk2 : loB a c = c := by unfold loB; rw [if_pos k2]
      have gk2 : hiB a c = a := by unfold hiB; rw [if_pos k2]
      rw [lk2, gk2]
      by_cases k3 : key c < key b
      · have lk3 : loB b c = c := by unfold loB; rw [if_pos k3]
        have gk3 : hiB b c = b := by unfold hiB; rw [if_pos k3]
        rw [lk3, gk3]
        exact ⟨_, _, _, rfl, by simp⟩
      · have lk3 : loB b c = b := by unfold loB; rw [if_neg k3]
        have gk3 : hiB b c = c := by unfold hiB; rw [if_neg k3]
        rw [lk3, gk3]
        exact ⟨_, _, _, rfl, by simp⟩
    · have lk2 : loB a c = a := by unfold loB; rw [if_neg k2]
      have gk2 : hiB a c = c := by unfold hiB; rw [if_neg k2]
      rw [lk2, gk2]
      by_cases k3 : key a < key b
      · have lk3 : loB b a = a := by unfold loB; rw [if_pos k3]
        have gk3 : hiB b a = b := by unfold hiB; rw [if_pos k3]
        rw [lk3, gk3]
        exact ⟨_, _, _, rfl, by simp⟩
      · have lk3 : loB b a = b := by unfold loB; rw [if_neg k3]
        have gk3 : hiB b a = a := by unfold hiB; rw [if_neg k3]
        rw [lk3, gk3]
        exact ⟨_, _, _, rfl, by simp⟩
  · have lk1 : loB a b = a := by unfold loB; rw [if_neg k1]
    have gk1 : hiB a b = b := by unfold hiB; rw [if_neg k1]
    rw [lk1, gk1]
    by_cases k2 : key c < key b
    · have lk2 : loB b c = c := by unfold loB; rw [if_pos k2]
      have gk2 : hiB b c = b := by unfold hiB; rw [if_pos k2]
      rw [lk2, gk2]
      by_cases k3 : key c < key a
      · have lk3 : loB a c = c := by unfold loB; rw [if_pos k3]
        have gk3 : hiB a c = a := by unfold hiB; rw [if_pos k3]
        rw [lk3, gk3]
        exact ⟨_, _, _, rfl, by simp⟩
      · have lk3 : loB a c = a := by unfold loB; rw [if_neg k3]
        have gk3 : hiB a c = c := by unfold hiB; rw [if_neg k3]
        rw [lk3, gk3]
        exact ⟨_, _, _, rfl, by simp⟩
    · have lk2 : loB b c = b := by unfold loB; rw [if_neg k2]
      have gk2 : hiB b c = c := by unfold hiB; rw [if_neg k2]
      rw [lk2, gk2]
      by_cases k3 : key b < key a
      · have lk3 : loB a b = b := by unfold loB; rw [if_pos k3]
        have gk3 : hiB a b = a := by unfold hiB; rw [if_pos k3]
        rw [lk3, gk3]
        exact ⟨_, _, _, rfl, by simp⟩
      · have lk3 : loB a b = a := by unfold loB; rw [if_neg k3]
        have gk3 : hiB a b = b := by unfold hiB; rw [if_neg k3]
        rw [lk3, gk3]
        exact ⟨_, _, _, rfl, by simp⟩
theorem negB_lt' {x : Nat} (hx : x < 18446744073709551616) : negB x < 18446744073709551616 := by
  unfold negB
  cases h : ng x
  · have := lt_of_ng h; simp; omega
  · simp; omega
theorem negB_mg {x : Nat} (hx : x < 18446744073709551616) : mg (negB x) = mg x := by
  unfold negB
  cases h : ng x
  · have := lt_of_ng h; simp [mg]
  · have := ge_of_ng h; simp [mg]; omega
theorem negB_ng {x : Nat} (hx : x < 18446744073709551616) : ng (negB x) = !ng x := by
  unfold negB
  cases h : ng x
  · simp [ng]
  · have := ge_of_ng h; simp [ng]; omega
theorem negB_negB' {x : Nat} (hx : x < 18446744073709551616) : negB (negB x) = x := by
  have h := negB_ng hx
  unfold negB at *
  cases k : ng x
  · rw [k] at h; simp only [Bool.false_eq_true, if_false] at h ⊢; rw [h]; simp
  · have := ge_of_ng k
    rw [k] at h; simp only [if_true] at h ⊢; rw [h]; simp; omega
theorem negB_sv {x : Nat} (hx : x < 18446744073709551616) : sv (negB x) = -sv x := by
  unfold sv
  rw [negB_ng hx, negB_mg hx]
  cases ng x <;> simp
theorem negB_isN {x : Nat} (hx : x < 18446744073709551616) : isN (negB x) = isN x := by unfold isN; rw [negB_mg hx]
theorem read_neg (x : Nat) (hx : x < 18446744073709551616) : double.read (negB x) = (double.read x).opposite := by
  have h1 : negB x % 9223372036854775808 = x % 9223372036854775808 := negB_mg hx
  have h2 : (negB x / 9223372036854775808 % 2 == 1) = !(x / 9223372036854775808 % 2 == 1) := by
    unfold negB
    cases k : ng x
    · have := lt_of_ng k
      rw [show x / 9223372036854775808 = 0 by omega]
      simp only [Bool.false_eq_true, if_false]
      rw [show (x + 9223372036854775808) / 9223372036854775808 = 1 by omega]
      rfl
    · have := ge_of_ng k
      rw [show x / 9223372036854775808 = 1 by omega]
      simp only [if_true]
      rw [show (x - 9223372036854775808) / 9223372036854775808 = 0 by omega]
      rfl
  unfold Format.read
  simp only [d_sw]
  rw [h1, h2]
  generalize x % 9223372036854775808 = r
  generalize (x / 9223372036854775808 % 2 == 1) = s
  by_cases a : r < double.binade
  · rw [if_pos a, if_pos a]; rfl
  · rw [if_neg a, if_neg a]
    by_cases b : r < double.infRung
    · rw [if_pos b, if_pos b]; rfl
    · rw [if_neg b, if_neg b]
      by_cases c : r = double.infRung
      · rw [if_pos c, if_pos c]; rfl
      · rw [if_neg c, if_neg c]; rfl
theorem sub_add (a b : Nat) (hb : b < 18446744073709551616) : double.sub a b = double.add a (negB b) := by
  unfold Format.sub Format.add; rw [read_neg b hb]
theorem mul_negneg (a b : Nat) (ha : a < 18446744073709551616) (hb : b < 18446744073709551616) : double.mul (negB a) (negB b) = double.mul a b := by
  unfold Format.mul
  rw [read_neg a ha, read_neg b hb]
  cases double.read a <;> cases double.read b <;> simp [Datum.opposite, Datum.product]
theorem mul_comm (a b : Nat) : double.mul a b = double.mul b a := by
  unfold Format.mul
  cases double.read a <;> cases double.read b <;> simp [Datum.product, Bool.xor_comm, Nat.mul_comm, Int.add_comm]
theorem addB_comm (a b : Nat) (ha : a < 18446744073709551616) (hb : b < 18446744073709551616) : addB a b = addB b a := by
  rcases three a with h1 | h1 | h1
  · rcases three b with h2 | h2 | h2
    · rw [addB_fin a b ha hb h1 h2, addB_fin b a hb ha h2 h1, Int.add_comm]
    · rw [addB_some (add_fi a b hb h1 h2), addB_some (add_if b a hb h2 h1)]
    · rw [addB_none (add_nan a b (.inr h2)), addB_none (add_nan b a (.inl h2))]
  · rcases three b with h2 | h2 | h2
    · rw [addB_some (add_if a b ha h1 h2), addB_some (add_fi b a ha h2 h1)]
    · have e1 := add_ii a b ha hb h1 h2
      have e2 := add_ii b a hb ha h2 h1
      by_cases c : ng a = ng b
      · rw [if_pos c] at e1
        rw [if_pos c.symm] at e2
        rw [addB_some e1, addB_some e2, c]
      · rw [if_neg c] at e1
        rw [if_neg (fun h => c h.symm)] at e2
        rw [addB_none e1, addB_none e2]
    · rw [addB_none (add_nan a b (.inr h2)), addB_none (add_nan b a (.inl h2))]
  · rw [addB_none (add_nan a b (.inl h1)), addB_none (add_nan b a (.inr h1))]
theorem canon_neg_quiet : canonB (negB quiet) = quiet := by decide
theorem canon_neg_inf (s : Bool) : canonB (negB (canonB (infW s))) = canonB (infW (!s)) := by cases s <;> decide
/-- opposites add up to the opposite -/
theorem addB_neg (a b : Nat) (ha : a < 18446744073709551616) (hb : b < 18446744073709551616) : addB (negB a) (negB b) = canonB (negB (addB a b)) := by
  have na := negB_lt' ha
  have nb := negB_lt' hb
  have ma := negB_mg ha
  have mb := negB_mg hb
  rcases three a with h1 | h1 | h1
  · rcases three b with h2 | h2 | h2
    · rw [addB_fin a b ha hb h1 h2, addB_fin _ _ na nb (by rw [ma]; exact h1) (by rw [mb]; exact h2), negB_sv ha, negB_sv hb, rn_negv, Int.neg_add]
    · rw [addB_some (add_fi a b hb h1 h2), addB_some (add_fi _ _ nb (by rw [ma]; exact h1) (by rw [mb]; exact h2)), negB_ng hb, canon_neg_inf]
    · rw [addB_none (add_nan a b (.inr h2)), addB_none (add_nan _ _ (.inr (by rw [negB_isN hb]; exact h2))), canon_neg_quiet]
  · rcases three b with h2 | h2 | h2
    · rw [addB_some (add_if a b ha h1 h2), addB_some (add_if _ _ na (by rw [ma]; exact h1) (by rw [mb]; exact h2)), negB_ng ha, canon_neg_inf]
    · have e1 := add_ii a b ha hb h1 h2
      have e2 := add_ii _ _ na nb (by rw [ma]; exact h1) (by rw [mb]; exact h2)
      rw [negB_ng ha, negB_ng hb] at e2
      by_cases c : ng a = ng b
      · rw [if_pos c] at e1
        rw [if_pos (by rw [c])] at e2
        rw [addB_some e1, addB_some e2, canon_neg_inf]
      · rw [if_neg c] at e1
        rw [if_neg (by simpa using c)] at e2
        rw [addB_none e1, addB_none e2, canon_neg_quiet]
    · rw [addB_none (add_nan a b (.inr h2)), addB_none (add_nan _ _ (.inr (by rw [negB_isN hb]; exact h2))), canon_neg_quiet]
  · rw [addB_none (add_nan a b (.inl h1)), addB_none (add_nan _ _ (.inl (by rw [negB_isN ha]; exact h1))), canon_neg_quiet]

/-- a difference, in the one form -/
def sbB (a b : Nat) : Nat := addB a (negB b)
theorem sbB_lt {a b : Nat} (ha : a < 18446744073709551616) (hb : b < 18446744073709551616) : sbB a b < 18446744073709551616 := addB_lt a _ ha (negB_lt' hb)
theorem sbB_anti {a b : Nat} (ha : a < 18446744073709551616) (hb : b < 18446744073709551616) : sbB b a = canonB (negB (sbB a b)) := by
  unfold sbB
  rw [← addB_neg a _ ha (negB_lt' hb), negB_negB' hb, addB_comm _ _ hb (negB_lt' ha)]
theorem sbB_negneg {a b : Nat} (ha : a < 18446744073709551616) (hb : b < 18446744073709551616) : sbB (negB a) (negB b) = canonB (negB (sbB a b)) := by
  unfold sbB
  exact addB_neg a _ ha (negB_lt' hb)
theorem canon_sbB {a b : Nat} (ha : a < 18446744073709551616) (hb : b < 18446744073709551616) : canonB (sbB a b) = sbB a b := by
  unfold sbB
  rcases add_cases a (negB b) ha (negB_lt' hb) with ⟨h1, h2⟩ | h | ⟨s, h⟩
  · rw [addB_fin a _ ha (negB_lt' hb) h1 h2, canon_rn]
  · rw [addB_none h]; decide
  · rw [addB_some h, infW_canon, infW_canon]
/-- one product, a NaN as the one -/
def mlB (a b : Nat) : Nat := match Ieee.double.mul a b with | some r => r | none => quiet
theorem mlB_some {a b r : Nat} (h : Ieee.double.mul a b = some r) : mlB a b = r := by unfold mlB; rw [h]
theorem mlB_none {a b : Nat} (h : Ieee.double.mul a b = none) : mlB a b = quiet := by unfold mlB; rw [h]
theorem mul_fact {a b r : Nat} (h : Ieee.double.mul a b = some r) (ha : a < 18446744073709551616) (hb : b < 18446744073709551616) : r < 18446744073709551616 ∧ isN r = false := by
  rcases mul_cases a b ha hb with ⟨h1, h2⟩ | h' | ⟨s, h'⟩
  · have e := mul_d a b ha hb h1 h2
    rw [h] at e
    injection e with e
    generalize rung 52 1074 (mv (mg a) * mv (mg b)) = q at e
    have hm : min q 9218868437227405312 ≤ 9218868437227405312 := Nat.min_le_right _ _
    generalize min q 9218868437227405312 = z at e hm
    rw [isN_false]
    subst e
    cases (ng a ^^ ng b)
    · simp only [Bool.false_eq_true, if_false]; exact ⟨by omega, by unfold mg; omega⟩
    · simp only [if_true]; exact ⟨by omega, by unfold mg; omega⟩
  · rw [h] at h'; cases h'
  · rw [h] at h'
    injection h' with h'
    subst h'
    exact ⟨infW_lt s, by rw [isN_false, infW_mg]; omega⟩
theorem mlB_lt {a b : Nat} (ha : a < 18446744073709551616) (hb : b < 18446744073709551616) : mlB a b < 18446744073709551616 := by
  cases h : Ieee.double.mul a b with
  | none => rw [mlB_none h]; decide
  | some r => rw [mlB_some h]; exact (mul_fact h ha hb).1
theorem mlB_q {a b : Nat} (ha : a < 18446744073709551616) (hb : b < 18446744073709551616) : qB (mlB a b) = mlB a b := by
  cases h : Ieee.double.mul a b with
  | none => rw [mlB_none h]; decide
  | some r => rw [mlB_some h]; exact qB_of (mul_fact h ha hb).2
theorem mlB_comm (a b : Nat) : mlB a b = mlB b a := by unfold mlB; rw [mul_comm]
def sqB (x : Nat) : Nat := mlB x x
theorem sqB_lt {x : Nat} (hx : x < 18446744073709551616) : sqB x < 18446744073709551616 := mlB_lt hx hx
theorem sqB_neg {x : Nat} (hx : x < 18446744073709551616) : sqB (negB x) = sqB x := by
  unfold sqB mlB; rw [mul_negneg x x hx hx]
theorem sqB_canon {x : Nat} (hx : x < 18446744073709551616) : sqB (canonB x) = sqB x := by
  unfold canonB
  cases h : isN x
  · simp only [Bool.false_eq_true, if_false]
    by_cases c : mg x = 0
    · rw [if_pos c]
      have : x = 0 ∨ x = 9223372036854775808 := by unfold mg at c; omega
      rcases this with rfl | rfl <;> decide
    · rw [if_neg c]
  · simp only [if_true]
    unfold sqB
    rw [mlB_none (mul_nan _ _ (.inl h)), mlB_none (mul_nan _ _ (.inl quiet_N))]
/-- an arithmetic of NaN: one among three makes the sum one -/
theorem plB_nan {a b : Nat} (h : isN a = true ∨ isN b = true) : plB a b = quiet := plB_none (add_nan a b h)
theorem thB_nan {a b c : Nat} (h : isN a = true ∨ isN b = true ∨ isN c = true) : thB a b c = quiet := by
  obtain ⟨u, v, z, e, hp⟩ := th_perm a b c
  rw [e]
  have hn : isN u = true ∨ isN v = true ∨ isN z = true := by
    rcases hp with ⟨rfl, rfl, rfl⟩ | ⟨rfl, rfl, rfl⟩ | ⟨rfl, rfl, rfl⟩ | ⟨rfl, rfl, rfl⟩ | ⟨rfl, rfl, rfl⟩ | ⟨rfl, rfl, rfl⟩ <;> rcases h with h | h | h <;> simp [h]
  rcases hn with k | k | k
  · rw [plB_nan (.inl k)]; exact plB_nan (.inl quiet_N)
  · rw [plB_nan (.inr k)]; exact plB_nan (.inl quiet_N)
  · exact plB_nan (.inr k)
theorem thB_q (a b c : Nat) : thB a b c = thB (qB a) (qB b) (qB c) := by
  cases h1 : isN a
  · cases h2 : isN b
    · cases h3 : isN c
      · rw [qB_of h1, qB_of h2, qB_of h3]
      · rw [thB_nan (.inr (.inr h3)), thB_nan (.inr (.inr (by rw [qB_isN]; exact h3)))]
    · rw [thB_nan (.inr (.inl h2)), thB_nan (.inr (.inl (by rw [qB_isN]; exact h2)))]
  · rw [thB_nan (.inl h1), thB_nan (.inl (by rw [qB_isN]; exact h1))]
theorem thB_lt {a b c : Nat} (ha : a < 18446744073709551616) (hb : b < 18446744073709551616) (hc : c < 18446744073709551616) : thB a b c < 18446744073709551616 := by
  obtain ⟨u, v, z, e, hp⟩ := th_perm a b c
  rw [e]
  have : u < 18446744073709551616 ∧ v < 18446744073709551616 ∧ z < 18446744073709551616 := by
    rcases hp with ⟨rfl, rfl, rfl⟩ | ⟨rfl, rfl, rfl⟩ | ⟨rfl, rfl, rfl⟩ | ⟨rfl, rfl, rfl⟩ | ⟨rfl, rfl, rfl⟩ | ⟨rfl, rfl, rfl⟩ <;> exact ⟨by assumption, by assumption, by assumption⟩
  exact plB_lt (plB_lt this.1 this.2.1) this.2.2
/-- a square root and a quotient, in the one form -/
def rtB (x : Nat) : Nat := match Ieee.double.sqrt x with | some r => canonB r | none => quiet
def dvB (a b : Nat) : Nat := match Ieee.double.div a b with | some r => canonB r | none => quiet
theorem rtB_some {x r : Nat} (h : Ieee.double.sqrt x = some r) : rtB x = canonB r := by unfold rtB; rw [h]
theorem rtB_none {x : Nat} (h : Ieee.double.sqrt x = none) : rtB x = quiet := by unfold rtB; rw [h]
theorem dvB_some {a b r : Nat} (h : Ieee.double.div a b = some r) : dvB a b = canonB r := by unfold dvB; rw [h]
theorem dvB_none {a b : Nat} (h : Ieee.double.div a b = none) : dvB a b = quiet := by unfold dvB; rw [h]
theorem canon_lt {x : Nat} (hx : x < 18446744073709551616) : canonB x < 18446744073709551616 := by
  unfold canonB; split
  · decide
  · split
    · decide
    · exact hx
theorem canon_idem (x : Nat) : canonB (canonB x) = canonB x := by
  by_cases h : isN x = true
  · rw [show canonB x = quiet by unfold canonB; rw [if_pos h]]; decide
  · by_cases c : mg x = 0
    · rw [show canonB x = 0 by unfold canonB; rw [if_neg h, if_pos c]]; decide
    · rw [show canonB x = x by unfold canonB; rw [if_neg h, if_neg c]]
      unfold canonB; rw [if_neg h, if_neg c]
theorem rtB_canon (x : Nat) : canonB (rtB x) = rtB x := by
  cases h : Ieee.double.sqrt x with
  | none => rw [rtB_none h]; decide
  | some r => rw [rtB_some h, canon_idem]
theorem dvB_canon (a b : Nat) : canonB (dvB a b) = dvB a b := by
  cases h : Ieee.double.div a b with
  | none => rw [dvB_none h]; decide
  | some r => rw [dvB_some h, canon_idem]
/-- how long -/
def lnB (x y z : Nat) : Nat := rtB (thB (sqB x) (sqB y) (sqB z))
theorem lnB_canon (x y z : Nat) : canonB (lnB x y z) = lnB x y z := rtB_canon _
theorem lnB_12 {x y z : Nat} (hx : x < 18446744073709551616) (hy : y < 18446744073709551616) : lnB x y z = lnB y x z := by
  unfold lnB; rw [thB_12 (sqB_lt hx) (sqB_lt hy)]
theorem lnB_23 {x y z : Nat} (hx : x < 18446744073709551616) (hy : y < 18446744073709551616) (hz : z < 18446744073709551616) : lnB x y z = lnB x z y := by
  unfold lnB; rw [thB_23 (sqB_lt hx) (sqB_lt hy) (sqB_lt hz)]
theorem lnB_231 {x y z : Nat} (hx : x < 18446744073709551616) (hy : y < 18446744073709551616) (hz : z < 18446744073709551616) : lnB y z x = lnB x y z := by
  rw [lnB_23 hy hz hx, lnB_12 hy hx]
theorem lnB_neg {x y z : Nat} (hx : x < 18446744073709551616) : lnB (negB x) y z = lnB x y z := by unfold lnB; rw [sqB_neg hx]
theorem lnB_cn {x y z : Nat} (hx : x < 18446744073709551616) : lnB (canonB (negB x)) y z = lnB x y z := by unfold lnB; rw [sqB_canon (negB_lt' hx), sqB_neg hx]
end Go.Proofs.YtgeipbegpflkhaaGreatDoor

/-
  What doubling does, by plain numbers (no program).
-/
namespace Go.Proofs.YtgeipbegpflkhaaGreatDoor
open Tf Ieee

theorem mv_dbl {r : Nat} (h : 4503599627370496 ≤ r) : mv (r + 4503599627370496) = 2 * mv r := by
  unfold mv mag
  have e : (2 : Nat) ^ 52 = 4503599627370496 := by decide
  rw [if_neg (by omega), if_neg (by omega), e]
  have h1 : (r + 4503599627370496) % 4503599627370496 = r % 4503599627370496 := by omega
  have h2 : (r + 4503599627370496) / 4503599627370496 - 1 = (r / 4503599627370496 - 1) + 1 := by omega
  rw [h1, h2, Nat.pow_add, Nat.pow_one, ← Nat.mul_assoc, Nat.mul_comm]
theorem rung_dbl {d V : Nat} (h0 : V ≠ 0) (h : 52 + d ≤ V.log2) : rung 52 d (V * 2) = rung 52 d V + 4503599627370496 := by
  unfold rung
  have hl : (V * 2).log2 = V.log2 + 1 := by
    have := log2_mul_pow V 1 h0
    rwa [Nat.pow_one] at this
  have e : (2 : Nat) ^ 52 = 4503599627370496 := by decide
  rw [hl, show V.log2 + 1 - (52 + d) = (V.log2 - (52 + d)) + 1 by omega, show (V.log2 - (52 + d)) + 1 + d = (V.log2 - (52 + d) + d) + 1 by omega]
  rw [Nat.pow_succ 2 (V.log2 - (52 + d) + d), rne_scale _ _ 2 (by omega), e]
  omega
theorem rung_big {d V : Nat} (h : 52 + d ≤ V.log2) (h0 : V ≠ 0) : 4503599627370496 ≤ rung 52 d V := by
  have e : mag 52 4503599627370496 = 2 ^ 52 := by decide
  refine rung_ge (by omega) ?_
  rw [e, ← Nat.pow_add]
  exact Nat.le_trans (Nat.pow_le_pow_right (by omega) h) (Nat.log2_self_le h0)
/-- the double of a word -/
def db (x : Nat) : Nat := if mg x = 0 then x else x + 4503599627370496
theorem db_mg {x : Nat} (h : mg x = 0 ∨ mg x + 4503599627370496 < 9223372036854775808) : mg (db x) = if mg x = 0 then 0 else mg x + 4503599627370496 := by
  unfold db
  by_cases c : mg x = 0
  · rw [if_pos c, if_pos c, c]
  · rw [if_neg c, if_neg c]
    have h := h.resolve_left c
    unfold mg at *
    omega
theorem db_ng {x : Nat} (h : mg x = 0 ∨ mg x + 4503599627370496 < 9223372036854775808) (hx : x < 18446744073709551616) : ng (db x) = ng x := by
  unfold db
  by_cases c : mg x = 0
  · rw [if_pos c]
  · rw [if_neg c]
    have h := h.resolve_left c
    unfold mg at *
    unfold ng
    by_cases k : 9223372036854775808 ≤ x
    · rw [decide_eq_true k, decide_eq_true (by omega)]
    · rw [decide_eq_false k, decide_eq_false (by omega)]
theorem db_lt {x : Nat} (h : mg x = 0 ∨ mg x + 4503599627370496 < 9223372036854775808) (hx : x < 18446744073709551616) : db x < 18446744073709551616 := by
  unfold db
  by_cases c : mg x = 0
  · rw [if_pos c]; exact hx
  · rw [if_neg c]
    have h := h.resolve_left c
    unfold mg at *
    omega
/-- nought, or a number far from both ends -/
def Md (x : Nat) : Prop := mg x = 0 ∨ (4503599627370496 ≤ mg x ∧ mg x + 4503599627370496 < 9218868437227405312)
theorem Md.w {x : Nat} (h : Md x) : mg x = 0 ∨ mg x + 4503599627370496 < 9223372036854775808 := by rcases h with h | h; exact .inl h; exact .inr (by omega)
theorem Md.fin {x : Nat} (h : Md x) : mg x < 9218868437227405312 := by rcases h with h | h <;> omega
theorem Md.dfin {x : Nat} (h : Md x) : mg (db x) < 9218868437227405312 := by
  rw [db_mg h.w]
  rcases h with h | h
  · rw [if_pos h]; omega
  · rw [if_neg (by omega)]; omega
theorem db_sv {x : Nat} (h : Md x) (hx : x < 18446744073709551616) : sv (db x) = 2 * sv x := by
  unfold sv
  rw [db_ng h.w hx, db_mg h.w]
  rcases h with h | h
  · rw [if_pos h, h, mv_zero]; cases ng x <;> rfl
  · rw [if_neg (show ¬ mg x = 0 by omega), mv_dbl h.1]
    cases ng x <;> simp <;> omega
theorem db_neg {x : Nat} (h : Md x) (hx : x < 18446744073709551616) : db (negB x) = negB (db x) := by
  have e := db_ng h.w hx
  unfold db at *
  rw [negB_mg hx]
  by_cases c : mg x = 0
  · rw [if_pos c, if_pos c]
  · rw [if_neg c] at *
    rw [if_neg c]
    unfold negB
    rw [e]
    cases k : ng x
    · simp only [Bool.false_eq_true, if_false, Nat.add_assoc, Nat.add_comm 9223372036854775808]
    · have := ge_of_ng k
      simp only [if_true]; omega
theorem Md.neg {x : Nat} (h : Md x) (hx : x < 18446744073709551616) : Md (negB x) := by unfold Md; rw [negB_mg hx]; exact h
/-- a rounded number doubled -/
theorem rn_dbl (z : Bool) {v : Int} (h : v = 0 ∨ (4503599627370496 ≤ v.natAbs ∧ rung 52 0 v.natAbs + 4503599627370496 ≤ 9218868437227405312)) : rn z (2 * v) = db (rn z v) := by
  rcases h with rfl | ⟨h1, h2⟩
  · rw [Int.mul_zero, rn_zero]; cases z <;> decide
  · have hv : v ≠ 0 := by intro h; rw [h] at h1; simp at h1
    have h0 : v.natAbs ≠ 0 := by omega
    have hlog : 52 + 0 ≤ v.natAbs.log2 := by
      have e : (2 : Nat) ^ 52 = 4503599627370496 := by decide
      rcases Nat.lt_or_ge v.natAbs.log2 52 with k | k
      · have := Nat.lt_log2_self (n := v.natAbs)
        have h3 : 2 ^ (v.natAbs.log2 + 1) ≤ 2 ^ 52 := Nat.pow_le_pow_right (by omega) (by omega)
        omega
      · omega
    have hr := rung_dbl h0 hlog
    have hb := rung_big hlog h0
    have e2 : (2 * v).natAbs = v.natAbs * 2 := by omega
    have hm : mg (rn z v) = rung 52 0 v.natAbs := by rw [rn_mg]; omega
    unfold db
    rw [hm, if_neg (by omega)]
    unfold rn
    rw [if_neg hv, if_neg (show ¬ 2 * v = 0 by omega), e2, hr]
    generalize rung 52 0 v.natAbs = r at *
    rw [Nat.min_eq_left (by omega), Nat.min_eq_left (by omega)]
    by_cases c : v < 0
    · rw [decide_eq_true c, decide_eq_true (show 2 * v < 0 by omega)]; simp; omega
    · rw [decide_eq_false c, decide_eq_false (show ¬ 2 * v < 0 by omega)]; simp
end Go.Proofs.YtgeipbegpflkhaaGreatDoor

/-
  Doubled numbers: their sums, products, squares, roots and quotients, by plain numbers (no program).
-/
namespace Go.Proofs.YtgeipbegpflkhaaGreatDoor
open Tf Ieee
theorem mul_w {x y : Nat} (hx : x < 18446744073709551616) (hy : y < 18446744073709551616) (fx : mg x < 9218868437227405312) (fy : mg y < 9218868437227405312) :
    mlB x y = if (ng x ^^ ng y) then 9223372036854775808 + min (rung 52 1074 (mv (mg x) * mv (mg y))) 9218868437227405312 else min (rung 52 1074 (mv (mg x) * mv (mg y))) 9218868437227405312 :=
  mlB_some (mul_d x y hx hy fx fy)
theorem rung_none (d : Nat) : rung 52 d 0 = 0 := by
  have := rung_mag 52 d 0 (by omega)
  rwa [mag_zero, Nat.zero_mul] at this
/-- a word by its sign and its rung -/
def wd (s : Bool) (r : Nat) : Nat := if s then 9223372036854775808 + r else r
theorem wd_mg {s : Bool} {r : Nat} (h : r < 9223372036854775808) : mg (wd s r) = r := by unfold wd mg; cases s <;> simp <;> omega
theorem wd_db {s : Bool} {r : Nat} (h : r < 9223372036854775808) (h0 : r ≠ 0) : db (wd s r) = wd s (r + 4503599627370496) := by
  unfold db
  rw [wd_mg h, if_neg h0]
  unfold wd
  cases s <;> simp <;> omega
theorem wd_dz (s : Bool) : db (wd s 0) = wd s 0 := by cases s <;> decide
/-- the product of two such numbers stays far from both ends -/
def Far (x y : Nat) : Prop := (mg x = 0 ∨ mg y = 0) ∨ (52 + 1074 ≤ (mv (mg x) * mv (mg y)).log2 ∧ rung 52 1074 (mv (mg x) * mv (mg y)) + 4503599627370496 < 9218868437227405312)
theorem mlB_db {x y : Nat} (hx : x < 18446744073709551616) (hy : y < 18446744073709551616) (mx : Md x) (my : Md y) (h : Far x y) : mlB (db x) y = db (mlB x y) := by
  rw [mul_w (db_lt mx.w hx) hy mx.dfin my.fin, mul_w hx hy mx.fin my.fin, db_ng mx.w hx, db_mg mx.w]
  show wd (ng x ^^ ng y) _ = db (wd (ng x ^^ ng y) _)
  generalize (ng x ^^ ng y) = s
  rcases h with h | ⟨h1, h2⟩
  · have e1 : mv (if mg x = 0 then 0 else mg x + 4503599627370496) * mv (mg y) = 0 := by
      rcases h with h | h
      · rw [if_pos h, mv_zero, Nat.zero_mul]
      · rw [h, mv_zero, Nat.mul_zero]
    have e2 : mv (mg x) * mv (mg y) = 0 := by
      rcases h with h | h
      · rw [h, mv_zero, Nat.zero_mul]
      · rw [h, mv_zero, Nat.mul_zero]
    rw [e1, e2, rung_none, Nat.zero_min, wd_dz]
  · have h0 : mv (mg x) * mv (mg y) ≠ 0 := by
      intro e
      rw [e] at h1
      simp at h1
    have hx0 : mg x ≠ 0 := by intro e; rw [e, mv_zero, Nat.zero_mul] at h0; exact h0 rfl
    have hb := rung_big h1 h0
    rw [if_neg hx0, mv_dbl (mx.resolve_left hx0).1, show 2 * mv (mg x) * mv (mg y) = mv (mg x) * mv (mg y) * 2 by rw [Nat.mul_comm 2, Nat.mul_right_comm], rung_dbl h0 h1]
    generalize rung 52 1074 (mv (mg x) * mv (mg y)) = r at *
    rw [Nat.min_eq_left (by omega), Nat.min_eq_left (by omega), wd_db (by omega) (by omega)]
theorem mlB_Md {x y : Nat} (hx : x < 18446744073709551616) (hy : y < 18446744073709551616) (mx : Md x) (my : Md y) (h : Far x y) : Md (mlB x y) := by
  rw [mul_w hx hy mx.fin my.fin]
  show Md (wd (ng x ^^ ng y) _)
  unfold Md
  rcases h with h | ⟨h1, h2⟩
  · have e2 : mv (mg x) * mv (mg y) = 0 := by
      rcases h with h | h
      · rw [h, mv_zero, Nat.zero_mul]
      · rw [h, mv_zero, Nat.mul_zero]
    rw [e2, rung_none, Nat.zero_min, wd_mg (by omega)]
    exact .inl rfl
  · have h0 : mv (mg x) * mv (mg y) ≠ 0 := by
      intro e
      rw [e] at h1
      simp at h1
    have hb := rung_big h1 h0
    generalize rung 52 1074 (mv (mg x) * mv (mg y)) = r at *
    rw [Nat.min_eq_left (by omega), wd_mg (by omega)]
    exact .inr ⟨hb, h2⟩
theorem mlB_dbr {x y : Nat} (hx : x < 18446744073709551616) (hy : y < 18446744073709551616) (mx : Md x) (my : Md y) (h : Far x y) : mlB x (db y) = db (mlB x y) := by
  rw [mlB_comm x (db y), mlB_comm x y]
  refine mlB_db hy hx my mx ?_
  rcases h with h | h
  · exact .inl h.symm
  · rw [Nat.mul_comm] at h; exact .inr h
/-- two times a number -/
theorem two_db {x : Nat} (hx : x < 18446744073709551616) (h : Md x) : mlB 4611686018427387904 x = db x := by
  have m2 : mv 4611686018427387904 = 2 ^ K * 2 := by
    have := mv_from_one 1 4611686018427387904 (by decide)
    rw [this, one_pow, Nat.pow_one, Nat.mul_comm]
  rw [mul_w (by decide) hx (by decide) h.fin, show mg 4611686018427387904 = 4611686018427387904 by decide, m2, show ng 4611686018427387904 = false by decide, Bool.false_xor]
  have es : 2 ^ K * 2 * mv (mg x) = (mv (mg x) * 2) * 2 ^ K := by rw [Nat.mul_comm (2 ^ K) 2, Nat.mul_comm, ← Nat.mul_assoc]
  have er : rung 52 1074 ((mv (mg x) * 2) * 2 ^ K) = rung 52 0 (mv (mg x) * 2) := by
    have h := rung_scale 52 0 K (mv (mg x) * 2)
    rw [Nat.zero_add] at h
    exact h
  rw [es, er]
  have hw := word_eq x hx
  rcases h with h | ⟨h1, h2⟩
  · rw [h, mv_zero, Nat.zero_mul, rung_none, Nat.zero_min]
    rw [h] at hw
    unfold db
    rw [if_pos h]
    exact hw.symm
  · have hm : mv (mg x) ≠ 0 := by
      intro e
      have := (mv_inj (r := mg x) (r' := 0)).1 (by rw [e, mv_zero])
      omega
    have hl : 52 + 0 ≤ (mv (mg x)).log2 := by
      have e : (2 : Nat) ^ 52 = 4503599627370496 := by decide
      have h3 : 2 ^ 52 ≤ mv (mg x) := by
        have : mv 4503599627370496 ≤ mv (mg x) := mv_le.2 h1
        rwa [show mv 4503599627370496 = 2 ^ 52 by decide] at this
      exact (Nat.le_log2 hm).2 h3
    rw [rung_dbl hm hl, rung_mv, Nat.min_eq_left (by omega)]
    unfold db
    rw [if_neg (show ¬ mg x = 0 by omega)]
    clear er es m2
    generalize mg x = r at *
    cases k : ng x
    · rw [k] at hw; simp at hw ⊢; omega
    · rw [k] at hw; simp at hw ⊢; omega
end Go.Proofs.YtgeipbegpflkhaaGreatDoor
