/-
  Cells and places of package cube: contracts.
-/
import Derived.Test.YtdgkmaamjdglmaaDoorKb
import Derived.BigQuiet
import Derived.Deep.QuietTactic
namespace Go.Proofs.YtdgkmaamjdglmaaDoor
open Go.RowKit Cu

/-- the number of a cell; -1: none -/
def cN (side face i j : Int) : Int := if (1 ≤ side ∧ side ≤ 32) ∧ inR face 6 = true ∧ inR i side = true ∧ inR j side = true then (face * side + j) * side + i else -1
theorem cN_le {s f j : Int} (h1 : 1 ≤ s) (h2 : s ≤ 32) (f1 : 0 ≤ f) (f2 : f < 6) (j1 : 0 ≤ j) (j2 : j < s) : (0 ≤ f * s ∧ f * s ≤ 192) ∧ (0 ≤ (f * s + j) * s ∧ (f * s + j) * s ≤ 7168) := by
  have a : f * s ≤ 6 * 32 := Int.mul_le_mul (by omega) h2 (by omega) (by omega)
  have b : 0 ≤ f * s := Int.mul_nonneg f1 (by omega)
  have c : (f * s + j) * s ≤ 224 * 32 := Int.mul_le_mul (by omega) h2 (by omega) (by omega)
  have d : 0 ≤ (f * s + j) * s := Int.mul_nonneg (by omega) (by omega)
  omega
theorem inR_iff {k n : Int} : inR k n = true ↔ 0 ≤ k ∧ k < n := by simp [inR]
theorem inR_no {k n : Int} : inR k n = false ↔ ¬ (0 ≤ k ∧ k < n) := by
  rw [← inR_iff]; simp
/-- a cell's face, i and j; false: no such cell -/
def pF (side c : Int) : Int := if inR c (clN side) = true then c / side / side else 0
def pI (side c : Int) : Int := if inR c (clN side) = true then c % side else 0
def pJ (side c : Int) : Int := if inR c (clN side) = true then c / side % side else 0
theorem clN_pos {s c : Int} (h : inR c (clN s) = true) : (1 ≤ s ∧ s ≤ 32) ∧ 0 ≤ c ∧ c < 6 * s * s ∧ c < 6144 := by
  have h := inR_iff.1 h
  unfold clN at h
  by_cases k : 1 ≤ s ∧ s ≤ 32
  · rw [if_pos k] at h
    have := (sq_le k.1 k.2).1
    omega
  · rw [if_neg k] at h; omega
set_option maxHeartbeats 1000000 in
theorem cell_at (side face i j : Int) (w : World) : Calls Tryd.prog 31 #[.int .i64 side, .int .i64 face, .int .i64 i, .int .i64 j] w fun e w' => e = .returned (.int .i64 (cN side face i j)) ∧ w' = w := by
  have C := hid (fun w => cells_at side w)
  have K := hid (fun k n w => counts_at k n w)
  by_cases h1 : 1 ≤ side ∧ side ≤ 32
  · have hc : clN side = 6 * side * side := by simp [clN, h1]
    have hb := (sq_le h1.1 h1.2).2
    have hs := h1.1
    rw [hc] at C
    clear hc
    by_cases hf : inR face 6 = true
    · by_cases hi : inR i side = true
      · by_cases hj : inR j side = true
        · have hd : cN side face i j = (face * side + j) * side + i := by simp only [cN]; rw [if_pos ⟨h1, hf, hi, hj⟩]
          have hl := cN_le h1.1 h1.2 (inR_iff.1 hf).1 (inR_iff.1 hf).2 (inR_iff.1 hj).1 (inR_iff.1 hj).2
          have hi2 := inR_iff.1 hi
          have hf2 := inR_iff.1 hf
          have hj2 := inR_iff.1 hj
          rw [hd]
          clear hd
          go_enter Tryd.func31, Tryd.ntmps31
          go_wp2_with (first
            | (go_at_call 20; refine (C.out _).mono ?_; rintro e w' ⟨rfl, rfl⟩)
            | (go_at_call 24; refine (K.out _ _ _).mono ?_; rintro e w' ⟨rfl, rfl⟩))
          go_ret
          exact ⟨rfl, rfl⟩
        · have hd : cN side face i j = -1 := by simp only [cN]; rw [if_neg (fun h => hj h.2.2.2)]
          have hj2 : inR j side = false := by simpa using hj
          rw [hd]
          clear hd
          go_enter Tryd.func31, Tryd.ntmps31
          go_wp2_with (first
            | (go_at_call 20; refine (C.out _).mono ?_; rintro e w' ⟨rfl, rfl⟩)
            | (go_at_call 24; refine (K.out _ _ _).mono ?_; rintro e w' ⟨rfl, rfl⟩))
          go_ret
          exact ⟨rfl, rfl⟩
      · have hd : cN side face i j = -1 := by simp only [cN]; rw [if_neg (fun h => hi h.2.2.1)]
        have hi2 : inR i side = false := by simpa using hi
        rw [hd]
        clear hd
        go_enter Tryd.func31, Tryd.ntmps31
        go_wp2_with (first
          | (go_at_call 20; refine (C.out _).mono ?_; rintro e w' ⟨rfl, rfl⟩)
          | (go_at_call 24; refine (K.out _ _ _).mono ?_; rintro e w' ⟨rfl, rfl⟩))
        go_ret
        exact ⟨rfl, rfl⟩
    · have hd : cN side face i j = -1 := by simp only [cN]; rw [if_neg (fun h => hf h.2.1)]
      have hf2 : inR face 6 = false := by simpa using hf
      rw [hd]
      clear hd
      go_enter Tryd.func31, Tryd.ntmps31
      go_wp2_with (first
        | (go_at_call 20; refine (C.out _).mono ?_; rintro e w' ⟨rfl, rfl⟩)
        | (go_at_call 24; refine (K.out _ _ _).mono ?_; rintro e w' ⟨rfl, rfl⟩))
      go_ret
      exact ⟨rfl, rfl⟩
  · have hd : cN side face i j = -1 := by simp only [cN]; rw [if_neg (fun h => h1 h.1)]
    have hc : clN side = 0 := by simp only [clN]; rw [if_neg h1]
    rw [hc] at C
    clear hc
    rw [hd]
    clear hd
    go_enter Tryd.func31, Tryd.ntmps31
    go_wp2_with (first
      | (go_at_call 20; refine (C.out _).mono ?_; rintro e w' ⟨rfl, rfl⟩)
      | (go_at_call 24; refine (K.out _ _ _).mono ?_; rintro e w' ⟨rfl, rfl⟩))
    go_ret
    exact ⟨rfl, rfl⟩
theorem place_le {s c : Int} (h1 : 1 ≤ s) (h2 : 0 ≤ c) : (0 ≤ c / s ∧ c / s ≤ c) ∧ (0 ≤ c / s / s ∧ c / s / s ≤ c) ∧ (0 ≤ c % s ∧ c % s < s) ∧ (0 ≤ c / s % s ∧ c / s % s < s) := by
  have a : 0 ≤ c / s := Int.ediv_nonneg h2 (by omega)
  have b : c / s ≤ c := Int.ediv_le_self _ h2
  have d : 0 ≤ c / s / s := Int.ediv_nonneg a (by omega)
  have e : c / s / s ≤ c / s := Int.ediv_le_self _ a
  have f := Int.emod_nonneg c (show s ≠ 0 by omega)
  have g := Int.emod_lt_of_pos c (show 0 < s by omega)
  have h := Int.emod_nonneg (c / s) (show s ≠ 0 by omega)
  have i := Int.emod_lt_of_pos (c / s) (show 0 < s by omega)
  omega
theorem td {a b : Int} (h : 0 ≤ a) : a.tdiv b = a / b ∧ a.tmod b = a % b := by
  exact ⟨Int.tdiv_eq_ediv_of_nonneg h, Int.tmod_eq_emod_of_nonneg h⟩
set_option maxHeartbeats 2000000 in
theorem place_at (side c : Int) (w : World) : Calls Tryd.prog 23 #[.int .i64 side, .int .i64 c] w fun e w' => e = .returned (.tuple #[.int .i64 (pF side c), .int .i64 (pI side c), .int .i64 (pJ side c), .bool (inR c (clN side))]) ∧ ∃ k, w' = w.drewN k := by
  have C := hid (fun w => cells_at side w)
  have K := hid (fun w => counts_at c (clN side) w)
  by_cases h1 : inR c (clN side) = true
  · obtain ⟨⟨s1, s2⟩, c1, c2, c3⟩ := clN_pos h1
    have hp := place_le s1 c1
    have e1 := td (b := side) c1
    have e2 := td (b := side) hp.1.1
    have E1 : Hid (pF side c = (c.tdiv side).tdiv side) := by rw [e1.1, e2.1]; simp [pF, h1, Hid]
    have E2 : Hid (pI side c = c % side) := by simp [pI, h1, Hid]
    have E3 : Hid (pJ side c = c.tdiv side % side) := by rw [e1.1]; simp [pJ, h1, Hid]
    have E4 := hid h1
    rw [h1] at K
    have q2 : 0 ≤ (c.tdiv side).tdiv side ∧ (c.tdiv side).tdiv side ≤ 6144 := by rw [e1.1, e2.1]; omega
    have q1 : 0 ≤ c.tdiv side ∧ c.tdiv side ≤ 6144 := by rw [e1.1]; omega
    have hs : ¬ side = 0 := by omega
    clear e1 e2 hp h1 c2
    go_enter Tryd.func23, Tryd.ntmps23
    go_wp2_with (first
      | (go_at_call 20; refine (C.out _).mono ?_; rintro e w' ⟨rfl, rfl⟩)
      | (go_at_call 24; refine (K.out _).mono ?_; rintro e w' ⟨rfl, rfl⟩))
    go_quiet (fail)
    go_wp2
    refine bodyPost_ret (v := .tuple #[.int .i64 ((c.tdiv side).tdiv side), .int .i64 (c % side), .int .i64 (c.tdiv side % side), .bool true]) (by simp [results, Tryd.results23, go_sem]) rfl ⟨by rw [E1.out, E2.out, E3.out, E4.out], _, rfl⟩
  · have h2 : inR c (clN side) = false := by simpa using h1
    rw [show pF side c = 0 by simp [pF, h1], show pI side c = 0 by simp [pI, h1], show pJ side c = 0 by simp [pJ, h1], h2]
    rw [h2] at K
    clear h1 h2
    go_enter Tryd.func23, Tryd.ntmps23
    go_wp2_with (first
      | (go_at_call 20; refine (C.out _).mono ?_; rintro e w' ⟨rfl, rfl⟩)
      | (go_at_call 24; refine (K.out _).mono ?_; rintro e w' ⟨rfl, rfl⟩))
    refine bodyPost_ret (v := .tuple #[.int .i64 0, .int .i64 0, .int .i64 0, .bool false]) (by simp [results, Tryd.results23, go_sem]) rfl ⟨rfl, 0, rfl⟩
end Go.Proofs.YtdgkmaamjdglmaaDoor
