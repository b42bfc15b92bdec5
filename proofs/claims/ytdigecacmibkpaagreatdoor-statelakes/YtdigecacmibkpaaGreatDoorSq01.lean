/-
  Some of the texts of this proof, one behind the other.
-/
import Derived.BigQuiet
import Derived.Deep.QuietTactic
import Derived.Deep.RegionHeld3
import Derived.Deep.RegionWith
import Derived.Deep.Cut
import Derived.Deep.CutRange
import Derived.Laws.StructEq
import Derived.Deep.Quiet
import Derived.Test.YtdigecacmibkpaaGreatDoorSq00
set_option maxRecDepth 100000
set_option maxHeartbeats 400000000
namespace Go.Proofs.YtdigecacmibkpaaGreatDoor
open Go.RowKit Cu
def cN (side face i j : Int) : Int := if (1 <= side /\ side <= 32) /\ inR face 6 = true /\ inR i side = true /\ inR j side = true then (face * side + j) * side + i else -1
theorem cN_le {s f j : Int} (h1 : 1 <= s) (h2 : s <= 32) (f1 : 0 <= f) (f2 : f < 6) (j1 : 0 <= j) (j2 : j < s) : (0 <= f * s /\ f * s <= 192) /\ (0 <= (f * s + j) * s /\ (f * s + j) * s <= 7168) := by
  have a : f * s <= 6 * 32 := Int.mul_le_mul (by omega) h2 (by omega) (by omega)
  have b : 0 <= f * s := Int.mul_nonneg f1 (by omega)
  have c : (f * s + j) * s <= 224 * 32 := Int.mul_le_mul (by omega) h2 (by omega) (by omega)
  have d : 0 <= (f * s + j) * s := Int.mul_nonneg (by omega) (by omega)
  omega
theorem inR_iff {k n : Int} : inR k n = true ↔ 0 <= k /\ k < n := by simp [inR]
theorem inR_no {k n : Int} : inR k n = false ↔ ¬ (0 <= k /\ k < n) := by
  rw [<- inR_iff]; simp
def pF (side c : Int) : Int := if inR c (clN side) = true then c / side / side else 0
def pI (side c : Int) : Int := if inR c (clN side) = true then c % side else 0
def pJ (side c : Int) : Int := if inR c (clN side) = true then c / side % side else 0
theorem clN_pos {s c : Int} (h : inR c (clN s) = true) : (1 <= s /\ s <= 32) /\ 0 <= c /\ c < 6 * s * s /\ c < 6144 := by
  have h := inR_iff.1 h
  unfold clN at h
  by_cases k : 1 <= s /\ s <= 32
  · rw [if_pos k] at h
    have := (sq_le k.1 k.2).1
    omega
  · rw [if_neg k] at h; omega
theorem cell_at (side face i j : Int) (w : World) : Calls Tryz.prog 87 #[.int .i64 side, .int .i64 face, .int .i64 i, .int .i64 j] w fun e w' => e = .returned (.int .i64 (cN side face i j)) /\ w' = w := by
  have C := hid (fun w => cells_at side w)
  have K := hid (fun k n w => counts_at k n w)
  by_cases h1 : 1 <= side /\ side <= 32
  · have hc : clN side = 6 * side * side := by simp [clN, h1]
    have hb := (sq_le h1.1 h1.2).2
    have hs := h1.1
    rw [hc] at C
    clear hc
    by_cases hf : inR face 6 = true
    · by_cases hi : inR i side = true
      · by_cases hj : inR j side = true
        · have hd : cN side face i j = (face * side + j) * side + i := by simp only [cN]; rw [if_pos ⟨h1, hf, hi, hj⟩]
          have hl := cN_le h1.1 h1.2 (inR_iff.1 hf).1 (inR_iff.1 hf).2 (inR_iff.1 hj).1 (inR_iff.1 hj).2
          have hi2 := inR_iff.1 hi
          have hf2 := inR_iff.1 hf
          have hj2 := inR_iff.1 hj
          rw [hd]
          clear hd
          go_enter Tryz.func87, Tryz.ntmps87
          go_wp2_with (first
            | (go_at_call 29; refine (C.out _).mono ?_; rintro e w' ⟨rfl, rfl⟩)
            | (go_at_call 82; refine (K.out _ _ _).mono ?_; rintro e w' ⟨rfl, rfl⟩))
          go_ret
          exact ⟨rfl, rfl⟩
        · have hd : cN side face i j = -1 := by simp only [cN]; rw [if_neg (fun h => hj h.2.2.2)]
          have hj2 : inR j side = false := by simpa using hj
          rw [hd]
          clear hd
          go_enter Tryz.func87, Tryz.ntmps87
          go_wp2_with (first
            | (go_at_call 29; refine (C.out _).mono ?_; rintro e w' ⟨rfl, rfl⟩)
            | (go_at_call 82; refine (K.out _ _ _).mono ?_; rintro e w' ⟨rfl, rfl⟩))
          go_ret
          exact ⟨rfl, rfl⟩
      · have hd : cN side face i j = -1 := by simp only [cN]; rw [if_neg (fun h => hi h.2.2.1)]
        have hi2 : inR i side = false := by simpa using hi
        rw [hd]
        clear hd
        go_enter Tryz.func87, Tryz.ntmps87
        go_wp2_with (first
          | (go_at_call 29; refine (C.out _).mono ?_; rintro e w' ⟨rfl, rfl⟩)
          | (go_at_call 82; refine (K.out _ _ _).mono ?_; rintro e w' ⟨rfl, rfl⟩))
        go_ret
        exact ⟨rfl, rfl⟩
    · have hd : cN side face i j = -1 := by simp only [cN]; rw [if_neg (fun h => hf h.2.1)]
      have hf2 : inR face 6 = false := by simpa using hf
      rw [hd]
      clear hd
      go_enter Tryz.func87, Tryz.ntmps87
      go_wp2_with (first
        | (go_at_call 29; refine (C.out _).mono ?_; rintro e w' ⟨rfl, rfl⟩)
        | (go_at_call 82; refine (K.out _ _ _).mono ?_; rintro e w' ⟨rfl, rfl⟩))
      go_ret
      exact ⟨rfl, rfl⟩
  · have hd : cN side face i j = -1 := by simp only [cN]; rw [if_neg (fun h => h1 h.1)]
    have hc : clN side = 0 := by simp only [clN]; rw [if_neg h1]
    rw [hc] at C
    clear hc
    rw [hd]
    clear hd
    go_enter Tryz.func87, Tryz.ntmps87
    go_wp2_with (first
      | (go_at_call 29; refine (C.out _).mono ?_; rintro e w' ⟨rfl, rfl⟩)
      | (go_at_call 82; refine (K.out _ _ _).mono ?_; rintro e w' ⟨rfl, rfl⟩))
    go_ret
    exact ⟨rfl, rfl⟩
theorem place_le {s c : Int} (h1 : 1 <= s) (h2 : 0 <= c) : (0 <= c / s /\ c / s <= c) /\ (0 <= c / s / s /\ c / s / s <= c) /\ (0 <= c % s /\ c % s < s) /\ (0 <= c / s % s /\ c / s % s < s) := by
  have a : 0 <= c / s := Int.ediv_nonneg h2 (by omega)
  have b : c / s <= c := Int.ediv_le_self _ h2
  have d : 0 <= c / s / s := Int.ediv_nonneg a (by omega)
  have e : c / s / s <= c / s := Int.ediv_le_self _ a
  have f := Int.emod_nonneg c (show s ≠ 0 by omega)
  have g := Int.emod_lt_of_pos c (show 0 < s by omega)
  have h := Int.emod_nonneg (c / s) (show s ≠ 0 by omega)
  have i := Int.emod_lt_of_pos (c / s) (show 0 < s by omega)
  omega
theorem td {a b : Int} (h : 0 <= a) : a.tdiv b = a / b /\ a.tmod b = a % b := by
  exact ⟨Int.tdiv_eq_ediv_of_nonneg h, Int.tmod_eq_emod_of_nonneg h⟩
theorem place_at (side c : Int) (w : World) : Calls Tryz.prog 81 #[.int .i64 side, .int .i64 c] w fun e w' => e = .returned (.tuple #[.int .i64 (pF side c), .int .i64 (pI side c), .int .i64 (pJ side c), .bool (inR c (clN side))]) /\ ∃ k, w' = w.drewN k := by
  have C := hid (fun w => cells_at side w)
  have K := hid (fun w => counts_at c (clN side) w)
  by_cases h1 : inR c (clN side) = true
  · obtain ⟨⟨s1, s2⟩, c1, c2, c3⟩ := clN_pos h1
    have hp := place_le s1 c1
    have e1 := td (b := side) c1
    have e2 := td (b := side) hp.1.1
    have E1 : Hid (pF side c = (c.tdiv side).tdiv side) := by rw [e1.1, e2.1]; simp [pF, h1, Hid]
    have E2 : Hid (pI side c = c % side) := by simp [pI, h1, Hid]
    have E3 : Hid (pJ side c = c.tdiv side % side) := by rw [e1.1]; simp [pJ, h1, Hid]
    have E4 := hid h1
    rw [h1] at K
    have q2 : 0 <= (c.tdiv side).tdiv side /\ (c.tdiv side).tdiv side <= 6144 := by rw [e1.1, e2.1]; omega
    have q1 : 0 <= c.tdiv side /\ c.tdiv side <= 6144 := by rw [e1.1]; omega
    have hs : ¬ side = 0 := by omega
    clear e1 e2 hp h1 c2
    go_enter Tryz.func81, Tryz.ntmps81
    go_wp2_with (first
      | (go_at_call 29; refine (C.out _).mono ?_; rintro e w' ⟨rfl, rfl⟩)
      | (go_at_call 82; refine (K.out _).mono ?_; rintro e w' ⟨rfl, rfl⟩))
    go_quiet (fail)
    go_wp2
    refine bodyPost_ret (v := .tuple #[.int .i64 ((c.tdiv side).tdiv side), .int .i64 (c % side), .int .i64 (c.tdiv side % side), .bool true]) (by simp [results, Tryz.results81, go_sem]) rfl ⟨by rw [E1.out, E2.out, E3.out, E4.out], _, rfl⟩
  · have h2 : inR c (clN side) = false := by simpa using h1
    rw [show pF side c = 0 by simp [pF, h1], show pI side c = 0 by simp [pI, h1], show pJ side c = 0 by simp [pJ, h1], h2]
    rw [h2] at K
    clear h1 h2
    go_enter Tryz.func81, Tryz.ntmps81
    go_wp2_with (first
      | (go_at_call 29; refine (C.out _).mono ?_; rintro e w' ⟨rfl, rfl⟩)
      | (go_at_call 82; refine (K.out _).mono ?_; rintro e w' ⟨rfl, rfl⟩))
    refine bodyPost_ret (v := .tuple #[.int .i64 0, .int .i64 0, .int .i64 0, .bool false]) (by simp [results, Tryz.results81, go_sem]) rfl ⟨rfl, 0, rfl⟩
theorem rcell_at (side face i j : Int) (w : World) : Calls Tryz.prog 102 #[.int .i64 side, .int .i64 face, .int .i64 i, .int .i64 j] w fun e w' => e = .returned (.int .i64 (cN side face i j)) /\ w' = w := by
  have C := hid (fun w => rcells_at side w)
  by_cases h1 : 1 <= side /\ side <= 32
  · have hc : clN side = 6 * side * side := by simp [clN, h1]
    have hb := (sq_le h1.1 h1.2).2
    have hs := h1.1
    rw [hc] at C
    clear hc
    by_cases hf : inR face 6 = true
    · by_cases hi : inR i side = true
      · by_cases hj : inR j side = true
        · have hd : cN side face i j = (face * side + j) * side + i := by simp only [cN]; rw [if_pos ⟨h1, hf, hi, hj⟩]
          have hl := cN_le h1.1 h1.2 (inR_iff.1 hf).1 (inR_iff.1 hf).2 (inR_iff.1 hj).1 (inR_iff.1 hj).2
          have hi2 := inR_iff.1 hi
          have hf2 := inR_iff.1 hf
          have hj2 := inR_iff.1 hj
          have z1 : (6 * side * side == 0) = false := by simp; omega
          have z2 : decide (face < 0) = false := by simp; omega
          have z3 : decide (5 < face) = false := by simp; omega
          have z4 : decide (i < 0) = false := by simp; omega
          have z5 : decide (side <= i) = false := by simp; omega
          have z6 : decide (j < 0) = false := by simp; omega
          have z7 : decide (side <= j) = false := by simp; omega
          rw [hd]
          clear hd
          go_enter Tryz.func102, Tryz.ntmps102
          go_wp2_with (first
            | (go_at_call 95; refine (C.out _).mono ?_; rintro e w' ⟨rfl, rfl⟩))
          go_ret
          exact ⟨rfl, rfl⟩
        · have hd : cN side face i j = -1 := by simp only [cN]; rw [if_neg (fun h => hj h.2.2.2)]
          have hj2 : inR j side = false := by simpa using hj
          rw [hd]
          clear hd
          have hi3 := inR_iff.1 hi
          have hf3 := inR_iff.1 hf
          have hj3 := inR_no.1 hj2
          rcases (show j < 0 \/ (side : Int) <= j by omega) with hj4 | hj4
          · go_enter Tryz.func102, Tryz.ntmps102
            go_wp2_with (first
              | (go_at_call 95; refine (C.out _).mono ?_; rintro e w' ⟨rfl, rfl⟩))
            go_ret
            exact ⟨rfl, rfl⟩
          · go_enter Tryz.func102, Tryz.ntmps102
            go_wp2_with (first
              | (go_at_call 95; refine (C.out _).mono ?_; rintro e w' ⟨rfl, rfl⟩))
            go_ret
            exact ⟨rfl, rfl⟩
      · have hd : cN side face i j = -1 := by simp only [cN]; rw [if_neg (fun h => hi h.2.2.1)]
        have hi2 : inR i side = false := by simpa using hi
        rw [hd]
        clear hd
        have hf3 := inR_iff.1 hf
        have hi3 := inR_no.1 hi2
        rcases (show i < 0 \/ (side : Int) <= i by omega) with hi4 | hi4
        · go_enter Tryz.func102, Tryz.ntmps102
          go_wp2_with (first
            | (go_at_call 95; refine (C.out _).mono ?_; rintro e w' ⟨rfl, rfl⟩))
          go_ret
          exact ⟨rfl, rfl⟩
        · go_enter Tryz.func102, Tryz.ntmps102
          go_wp2_with (first
            | (go_at_call 95; refine (C.out _).mono ?_; rintro e w' ⟨rfl, rfl⟩))
          go_ret
          exact ⟨rfl, rfl⟩
    · have hd : cN side face i j = -1 := by simp only [cN]; rw [if_neg (fun h => hf h.2.1)]
      have hf2 : inR face 6 = false := by simpa using hf
      rw [hd]
      clear hd
      have hf3 := inR_no.1 hf2
      rcases (show face < 0 \/ (6 : Int) <= face by omega) with hf4 | hf4
      · go_enter Tryz.func102, Tryz.ntmps102
        go_wp2_with (first
          | (go_at_call 95; refine (C.out _).mono ?_; rintro e w' ⟨rfl, rfl⟩))
        go_ret
        exact ⟨rfl, rfl⟩
      · go_enter Tryz.func102, Tryz.ntmps102
        go_wp2_with (first
          | (go_at_call 95; refine (C.out _).mono ?_; rintro e w' ⟨rfl, rfl⟩))
        go_ret
        exact ⟨rfl, rfl⟩
  · have hd : cN side face i j = -1 := by simp only [cN]; rw [if_neg (fun h => h1 h.1)]
    have hc : clN side = 0 := by simp only [clN]; rw [if_neg h1]
    rw [hc] at C
    clear hc
    rw [hd]
    clear hd
    go_enter Tryz.func102, Tryz.ntmps102
    go_wp2_with (first
      | (go_at_call 95; refine (C.out _).mono ?_; rintro e w' ⟨rfl, rfl⟩))
    go_ret
    exact ⟨rfl, rfl⟩
theorem rplace_at (side c : Int) (w : World) : Calls Tryz.prog 131 #[.int .i64 side, .int .i64 c] w fun e w' => e = .returned (.tuple #[.int .i64 (pF side c), .int .i64 (pI side c), .int .i64 (pJ side c), .bool (inR c (clN side))]) /\ ∃ k, w' = w.drewN k := by
  have C := hid (fun w => rcells_at side w)
  by_cases h1 : inR c (clN side) = true
  · obtain ⟨⟨s1, s2⟩, c1, c2, c3⟩ := clN_pos h1
    have hp := place_le s1 c1
    have e1 := td (b := side) c1
    have e2 := td (b := side) hp.1.1
    have e3 := td (b := side * side) c1
    have hss := sq_le s1 s2
    rw [Int.mul_assoc] at hss
    have E1 : Hid (pF side c = c.tdiv (side * side)) := by rw [e3.1, <- Int.ediv_ediv_of_nonneg (show 0 <= side by omega)]; simp [pF, h1, Hid]
    have E2 : Hid (pI side c = c % side) := by simp [pI, h1, Hid]
    have E3 : Hid (pJ side c = c.tdiv side % side) := by rw [e1.1]; simp [pJ, h1, Hid]
    have E4 := hid h1
    have h3 := inR_iff.1 h1
    have q2 : 0 <= c.tdiv (side * side) /\ c.tdiv (side * side) <= 6144 := by rw [<- E1.out]; simp only [pF, h1]; simp only [if_true]; omega
    have hs2 : ¬ side * side = 0 := by omega
    have q1 : 0 <= c.tdiv side /\ c.tdiv side <= 6144 := by rw [e1.1]; omega
    have hs : ¬ side = 0 := by omega
    clear e1 e2 e3 hp h1 c2
    go_enter Tryz.func131, Tryz.ntmps131
    go_wp2_with (first
      | (go_at_call 95; refine (C.out _).mono ?_; rintro e w' ⟨rfl, rfl⟩))
    go_quiet (fail)
    go_wp2
    refine bodyPost_ret (v := .tuple #[.int .i64 (c.tdiv (side * side)), .int .i64 (c % side), .int .i64 (c.tdiv side % side), .bool true]) (by simp [results, Tryz.results131, go_sem]) rfl ⟨by rw [E1.out, E2.out, E3.out, E4.out], _, rfl⟩
  · have h2 : inR c (clN side) = false := by simpa using h1
    rw [show pF side c = 0 by simp [pF, h1], show pI side c = 0 by simp [pI, h1], show pJ side c = 0 by simp [pJ, h1], h2]
    have h3 := inR_no.1 h2
    clear h1 h2
    rcases (show c < 0 \/ (0 <= c /\ clN side <= c) by omega) with h4 | h4
    · go_enter Tryz.func131, Tryz.ntmps131
      go_wp2_with (first
        | (go_at_call 95; refine (C.out _).mono ?_; rintro e w' ⟨rfl, rfl⟩))
      refine bodyPost_ret (v := .tuple #[.int .i64 0, .int .i64 0, .int .i64 0, .bool false]) (by simp [results, Tryz.results131, go_sem]) rfl ⟨rfl, 0, rfl⟩
    · go_enter Tryz.func131, Tryz.ntmps131
      go_wp2_with (first
        | (go_at_call 95; refine (C.out _).mono ?_; rintro e w' ⟨rfl, rfl⟩))
      refine bodyPost_ret (v := .tuple #[.int .i64 0, .int .i64 0, .int .i64 0, .bool false]) (by simp [results, Tryz.results131, go_sem]) rfl ⟨rfl, 0, rfl⟩
end Go.Proofs.YtdigecacmibkpaaGreatDoor

namespace Go.Proofs.YtdigecacmibkpaaGreatDoor
open Go.RowKit Cu
def Fr9 (w : World) (f : Nat) : Prop :=
  (w.cell? ⟨1, f * 9, none⟩ = some (.int .i64 (cC f).1) /\ w.cell? ⟨1, f * 9 + 1, none⟩ = some (.int .i64 (cC f).2.1) /\ w.cell? ⟨1, f * 9 + 2, none⟩ = some (.int .i64 (cC f).2.2)) ∧
  (w.cell? ⟨1, f * 9 + 3, none⟩ = some (.int .i64 (cR f).1) /\ w.cell? ⟨1, f * 9 + 4, none⟩ = some (.int .i64 (cR f).2.1) /\ w.cell? ⟨1, f * 9 + 5, none⟩ = some (.int .i64 (cR f).2.2)) ∧
  (w.cell? ⟨1, f * 9 + 6, none⟩ = some (.int .i64 (cU f).1) /\ w.cell? ⟨1, f * 9 + 7, none⟩ = some (.int .i64 (cU f).2.1) /\ w.cell? ⟨1, f * 9 + 8, none⟩ = some (.int .i64 (cU f).2.2))
def Fr (w : World) : Prop := 1 < w.heap.size /\ ∀ f, f < 6 -> Fr9 w f
theorem Fr.below {w w' : World} {n : Nat} (h : Fr w) (b : Below n w w') (hn : 1 < n) (hs : 1 < w'.heap.size) : Fr w' := by
  refine ⟨hs, fun f hf => ?_⟩
  have hc : ∀ k, w'.cell? ⟨1, k, none⟩ = w.cell? ⟨1, k, none⟩ := fun k => b.cell (by exact hn)
  have := h.2 f hf
  unfold Fr9 at *
  simp only [hc]
  exact this
theorem Fr.to {w w' : World} (h : Fr w) (b : Below w.heap.size w w') : Fr w' := h.below b h.1 (Nat.lt_of_lt_of_le h.1 b.size)
theorem un_tab : ∀ f < 6, ((-1 <= (cC f).1 /\ (cC f).1 <= 1) /\ (-1 <= (cC f).2.1 /\ (cC f).2.1 <= 1) /\ (-1 <= (cC f).2.2 /\ (cC f).2.2 <= 1)) := by decide +kernel
theorem un_tab2 : ∀ f < 6, ((-1 <= (cR f).1 /\ (cR f).1 <= 1) /\ (-1 <= (cR f).2.1 /\ (cR f).2.1 <= 1) /\ (-1 <= (cR f).2.2 /\ (cR f).2.2 <= 1)) := by decide +kernel
theorem un_tab3 : ∀ f < 6, ((-1 <= (cU f).1 /\ (cU f).1 <= 1) /\ (-1 <= (cU f).2.1 /\ (cU f).2.1 <= 1) /\ (-1 <= (cU f).2.2 /\ (cU f).2.2 <= 1)) := by decide +kernel
theorem un_C {f : Nat} (h : f < 6) : Un (cC f) := un_tab f h
theorem un_R {f : Nat} (h : f < 6) : Un (cR f) := un_tab2 f h
theorem un_U {f : Nat} (h : f < 6) : Un (cU f) := un_tab3 f h
theorem un_wy {f s : Nat} (h : f < 6) : Un (wy f s) := by
  have a := un_R h
  have b := un_U h
  unfold Un at *
  unfold wy
  split <;> (try simp only [sc]) <;> refine ⟨⟨?_, ?_⟩, ⟨?_, ?_⟩, ?_, ?_⟩ <;> omega
theorem bl4 (w : World) (A B C D : Obj) : Below w.heap.size w ((((w.alloc A).alloc B).alloc C).alloc D) := (bl3 w A B C).alloc (by simp; omega) _
theorem heap_a4 (w : World) (A B C D : Obj) : ((((w.alloc A).alloc B).alloc C).alloc D).heap[w.heap.size]? = some A := by
  rw [Below.heap_alloc _ _ _ (by simp; omega), Below.heap_alloc _ _ _ (by simp; omega)]
  exact heap_alloc2_old _ _ _
theorem way_at (f s : Nat) (w : World) (hf : f < 6) (hs : s < 4) (h : Fr w) :
    Calls Tryz.prog 89 #[.int .i64 f, .int .i64 s] w fun e w' => e = .returned (.agg #[.int .i64 (wy f s).1, .int .i64 (wy f s).2.1, .int .i64 (wy f s).2.2]) /\ Below w.heap.size w w' := by
  obtain ⟨⟨k0, k1, k2⟩, ⟨k3, k4, k5⟩, ⟨k6, k7, k8⟩⟩ := h.2 f hf
  have h0 := h.1
  have hf' : (f : Int) < 6 := by omega
  have T1 := hid (fun w => times_ex (cR f) (-1) w (sc_sm (un_R hf) (by omega)))
  have T2 := hid (fun w => times_ex (cU f) (-1) w (sc_sm (un_U hf) (by omega)))
  clear h hf
  rcases four hs with rfl | rfl | rfl | rfl
  · clear T1 T2 hs
    go_enter Tryz.func89, Tryz.ntmps89
    go_wp2
    refine bodyPost_ret ?_ rfl ⟨rfl, bl2 _ _ _⟩
    exact results_cell_row Tryz.results89 _ _ w.heap.size _ _ (0, 0) _ rfl (heap_alloc2_old _ _ _) Tryz.underlying107 rfl (by kernel_rfl)
  · clear T1 T2 hs
    go_enter Tryz.func89, Tryz.ntmps89
    go_wp2
    refine bodyPost_ret ?_ rfl ⟨rfl, bl2 _ _ _⟩
    exact results_cell_row Tryz.results89 _ _ w.heap.size _ _ (0, 0) _ rfl (heap_alloc2_old _ _ _) Tryz.underlying107 rfl (by kernel_rfl)
  · clear T2 hs
    go_enter Tryz.func89, Tryz.ntmps89
    go_wp2_with (go_at_call 125; refine (T1.out _).mono ?_; rintro e w1 ⟨rfl, rfl⟩)
    refine bodyPost_ret ?_ rfl ⟨rfl, ?_⟩
    · exact results_cell_row Tryz.results89 _ _ w.heap.size _ _ (0, 0) _ rfl (heap_a4 _ _ _ _ _) Tryz.underlying107 rfl (by kernel_rfl)
    · exact bl4 _ _ _ _ _
  · clear T1 hs
    go_enter Tryz.func89, Tryz.ntmps89
    go_wp2_with (go_at_call 125; refine (T2.out _).mono ?_; rintro e w1 ⟨rfl, rfl⟩)
    refine bodyPost_ret ?_ rfl ⟨rfl, ?_⟩
    · exact results_cell_row Tryz.results89 _ _ w.heap.size _ _ (0, 0) _ rfl (heap_a4 _ _ _ _ _) Tryz.underlying107 rfl (by kernel_rfl)
    · exact bl4 _ _ _ _ _
end Go.Proofs.YtdigecacmibkpaaGreatDoor

namespace Go.Proofs.YtdigecacmibkpaaGreatDoor
open Go.RowKit Cu
theorem wr {x : Int} (h : -1000000 <= x /\ x <= 1000000) : IntKind.i64.wrap x = x := by rw [IntKind.wrap_i64]; omega
def Pc (w : World) (g o : Nat) (p : P3) : Prop := w.cell? ⟨g, o, none⟩ = some (.int .i64 p.1) /\ w.cell? ⟨g, o + 1, none⟩ = some (.int .i64 p.2.1) /\ w.cell? ⟨g, o + 2, none⟩ = some (.int .i64 p.2.2)
theorem Ab.pc {W w : World} (h : Ab W w) {g o : Nat} {p : P3} (hg : g < W.heap.size) (k : Pc W g o p) : Pc w g o p :=
  ⟨(Below.cell h (by exact hg)).trans k.1, (Below.cell h (by exact hg)).trans k.2.1, (Below.cell h (by exact hg)).trans k.2.2⟩
theorem pc_row {w : World} {g : Nat} {p : P3} {T : TypeId} {fr : Nat × Nat} (h : w.heap[g]? = some (.cells #[.int .i64 p.1, .int .i64 p.2.1, .int .i64 p.2.2] T fr)) : Pc w g 0 p :=
  ⟨cell_of_row w g 0 _ _ _ h, cell_of_row w g 1 _ _ _ h, cell_of_row w g 2 _ _ _ h⟩
theorem Abx.pc {W w : World} {g n : Nat} {T : TypeId} (h : Abx W g n T w) {k o : Nat} {p : P3} (hne : k ≠ g) (hg : k < W.heap.size) (q : Pc W k o p) : Pc w k o p := by
  have e : ∀ j, w.cell? ⟨k, j, none⟩ = W.cell? ⟨k, j, none⟩ := fun j => World.cell?_of_block (h.1.2.2.2.2 k hg hne)
  unfold Pc at *
  simp only [e]
  exact q
theorem middle_at (n f i j : Nat) (w : World) (hn : 1 <= (n : Int) /\ (n : Int) <= 32) (hf : f < 6) (hi : (i : Int) < n) (hj : (j : Int) < n) (h : Fr w) :
    Calls Tryz.prog 86 #[.int .i64 n, .int .i64 f, .int .i64 i, .int .i64 j] w fun e w' => e = .returned (.agg #[.int .i64 (md n f i j).1, .int .i64 (md n f i j).2.1, .int .i64 (md n f i j).2.2]) /\ Below w.heap.size w w' := by
  obtain ⟨⟨k0, k1, k2⟩, ⟨k3, k4, k5⟩, ⟨k6, k7, k8⟩⟩ := h.2 f hf
  have h0 := h.1
  have hf' : (f : Int) < 6 := by omega
  obtain ⟨a, ha⟩ : ∃ a : Int, 2 * (i : Int) + 1 - n = a := ⟨_, rfl⟩
  obtain ⟨b, hb⟩ : ∃ b : Int, 2 * (j : Int) + 1 - n = b := ⟨_, rfl⟩
  have u1 : IntKind.i64.wrap (IntKind.i64.wrap (IntKind.i64.wrap (2 * (i : Int)) + 1) - n) = a := by rw [wr (x := 2 * (i : Int)) (by omega), wr (x := 2 * (i : Int) + 1) (by omega), wr (by omega), ha]
  have u2 : IntKind.i64.wrap (IntKind.i64.wrap (IntKind.i64.wrap (2 * (j : Int)) + 1) - n) = b := by rw [wr (x := 2 * (j : Int)) (by omega), wr (x := 2 * (j : Int) + 1) (by omega), wr (by omega), hb]
  have S1 : Sm (sc a (cR f)) := sc_sm (un_R hf) (by omega)
  have S2 : Sm (sc b (cU f)) := sc_sm (un_U hf) (by omega)
  have S3 : Sm (sc n (cC f)) := sc_sm (un_C hf) (by omega)
  have S4 : Sm (pl (sc a (cR f)) (sc b (cU f))) := by
    have x1 := mul_un (un_R hf).1 32 (show -32 <= a /\ a <= 32 by omega)
    have x2 := mul_un (un_R hf).2.1 32 (show -32 <= a /\ a <= 32 by omega)
    have x3 := mul_un (un_R hf).2.2 32 (show -32 <= a /\ a <= 32 by omega)
    have y1 := mul_un (un_U hf).1 32 (show -32 <= b /\ b <= 32 by omega)
    have y2 := mul_un (un_U hf).2.1 32 (show -32 <= b /\ b <= 32 by omega)
    have y3 := mul_un (un_U hf).2.2 32 (show -32 <= b /\ b <= 32 by omega)
    simp only [Sm, pl, sc]
    omega
  have T1 := hid (fun w => times_ex (cR f) a w S1)
  have T2 := hid (fun w => times_ex (cU f) b w S2)
  have P1 := hid (fun w => plus_ex (sc a (cR f)) (sc b (cU f)) w S1 S2)
  have T3 := hid (fun w => times_at (cC f) n w S3)
  have P2 := hid (fun w => plus_at (sc n (cC f)) (pl (sc a (cR f)) (sc b (cU f))) w S3 S4)
  have E : Hid (md n f i j = pl (sc n (cC f)) (pl (sc a (cR f)) (sc b (cU f)))) := by rw [<- ha, <- hb]; exact rfl
  rw [E.out]
  clear h hf S1 S2 S3 S4 ha hb E
  go_enter Tryz.func86, Tryz.ntmps86
  go_upto_region 2 with fail
  generalize hW : World.alloc _ _ = W
  have z1 : Hid (W.heap.size = w.heap.size + 2) := by rw [<- hW]; simp [Hid]
  have AW : Hid (Ab w W) := by rw [<- hW]; exact bl2 _ _ _
  have r8 : Hid (W.heap[w.heap.size]? = some (.cells #[.int .i64 0, .int .i64 0, .int .i64 0] 107)) := by rw [<- hW]; exact heap_alloc2_old _ _ _
  have r9 : W.heap[w.heap.size + 1]? = some (.cells #[.int .i64 (cC f).1, .int .i64 (cC f).2.1, .int .i64 (cC f).2.2, .int .i64 (cR f).1, .int .i64 (cR f).2.1, .int .i64 (cR f).2.2, .int .i64 (cU f).1, .int .i64 (cU f).2.1, .int .i64 (cU f).2.2] 144) := by rw [<- hW]; exact heap_alloc2_new _ _ _
  have KS : Hid (∀ w', Ab W w' -> Ab W w' /\ w'.cell? ⟨w.heap.size + 1, 3, none⟩ = some (.int .i64 (cR f).1) /\ w'.cell? ⟨w.heap.size + 1, 4, none⟩ = some (.int .i64 (cR f).2.1) /\ w'.cell? ⟨w.heap.size + 1, 5, none⟩ = some (.int .i64 (cR f).2.2) /\ w'.cell? ⟨w.heap.size + 1, 6, none⟩ = some (.int .i64 (cU f).1) /\ w'.cell? ⟨w.heap.size + 1, 7, none⟩ = some (.int .i64 (cU f).2.1) /\ w'.cell? ⟨w.heap.size + 1, 8, none⟩ = some (.int .i64 (cU f).2.2)) := by
    intro w' hw
    have r := hw.heap r9
    exact ⟨hw, cell_of_row _ _ 3 _ _ _ r, cell_of_row _ _ 4 _ _ _ r, cell_of_row _ _ 5 _ _ _ r, cell_of_row _ _ 6 _ _ _ r, cell_of_row _ _ 7 _ _ _ r, cell_of_row _ _ 8 _ _ _ r⟩
  have KC : Hid (∀ w', Ab W w' -> Pc w' (w.heap.size + 1) 0 (cC f)) := by
    intro w' hw
    have r := hw.heap r9
    exact ⟨cell_of_row _ _ 0 _ _ _ r, cell_of_row _ _ 1 _ _ _ r, cell_of_row _ _ 2 _ _ _ r⟩
  have A0 := Ab.refl W
  clear r9 k0 k1 k2 k3 k4 k5 k6 k7 k8 hW
  go_cut [10] from 14 to 30 (fun s10 wx => ∃ g10, s10 = .pointer (some ⟨g10, 0, none⟩) /\ Ab W wx /\ W.heap.size <= g10 /\ wx.heap[g10]? = some (.cells #[.int .i64 (pl (sc a (cR f)) (sc b (cU f))).1, .int .i64 (pl (sc a (cR f)) (sc b (cU f))).2.1, .int .i64 (pl (sc a (cR f)) (sc b (cU f))).2.2] 107))
  case first =>
    go_region_held3 (fun w' => Ab W w' /\ w'.cell? ⟨w.heap.size + 1, 3, none⟩ = some (.int .i64 (cR f).1) /\ w'.cell? ⟨w.heap.size + 1, 4, none⟩ = some (.int .i64 (cR f).2.1) /\ w'.cell? ⟨w.heap.size + 1, 5, none⟩ = some (.int .i64 (cR f).2.2) /\ w'.cell? ⟨w.heap.size + 1, 6, none⟩ = some (.int .i64 (cU f).1) /\ w'.cell? ⟨w.heap.size + 1, 7, none⟩ = some (.int .i64 (cU f).2.1) /\ w'.cell? ⟨w.heap.size + 1, 8, none⟩ = some (.int .i64 (cU f).2.2)) ((refine KS.out _ ?_; (with_reducible (repeat (first | assumption | apply Ab.drew | apply Ab.alloc))); done)) (first
      | (go_at_call_of 125 a; refine (T1.out _).mono ?_; rintro e w1 ⟨rfl, rfl⟩)
      | (go_at_call_of 125 b; refine (T2.out _).mono ?_; rintro e w1 ⟨rfl, rfl⟩)
      | (go_at_call 126; refine (P1.out _).mono ?_; rintro e w1 ⟨rfl, rfl⟩))
    all_goals go_wp2_with fail
    all_goals go_meet
    all_goals refine ⟨_, rfl, ?_, ?_, ?_⟩
    all_goals first
      | ((with_reducible (repeat (first | assumption | apply Ab.drew | apply Ab.alloc))); done)
      | omega
      | (simp; done)
      | (simp; omega)
      | (rw [heap_drew]; (repeat (first | exact heap_at _ _ _ (by first | (simp; done) | (simp; omega)) | rw [Below.heap_alloc _ _ _ (by first | (simp; done) | (simp; omega))])); done)
      | trace_state
  case rest =>
    obtain ⟨g10, rfl, A1, hg10, r10⟩ := hcut
    clear KS T1 T2 P1 u1 u2
    have KS : Hid (∀ w', Abx wc w.heap.size 3 107 w' -> Abx wc w.heap.size 3 107 w' /\ w'.cell? ⟨w.heap.size + 1, 0, none⟩ = some (.int .i64 (cC f).1) /\ w'.cell? ⟨w.heap.size + 1, 1, none⟩ = some (.int .i64 (cC f).2.1) /\ w'.cell? ⟨w.heap.size + 1, 2, none⟩ = some (.int .i64 (cC f).2.2) /\ w'.cell? ⟨g10, 0, none⟩ = some (.int .i64 (pl (sc a (cR f)) (sc b (cU f))).1) /\ w'.cell? ⟨g10, 1, none⟩ = some (.int .i64 (pl (sc a (cR f)) (sc b (cU f))).2.1) /\ w'.cell? ⟨g10, 2, none⟩ = some (.int .i64 (pl (sc a (cR f)) (sc b (cU f))).2.2) /\ w'.frozen? ⟨w.heap.size, 0, none⟩ = false /\ w'.frozen? ⟨w.heap.size, 1, none⟩ = false /\ w'.frozen? ⟨w.heap.size, 2, none⟩ = false /\ w'.cell? ⟨w.heap.size, 0, none⟩ = some (rv w' w.heap.size 0) /\ w'.cell? ⟨w.heap.size, 1, none⟩ = some (rv w' w.heap.size 1) /\ w'.cell? ⟨w.heap.size, 2, none⟩ = some (rv w' w.heap.size 2)) := by
      intro w' hw
      have hz := z1.out
      have r1 := hw.heap (by omega) r10
      obtain ⟨q1, q2, q3⟩ := hw.pc (by omega) (by have := A1.size; omega) (KC.out _ A1)
      exact ⟨hw, q1, q2, q3, cell_of_row _ _ 0 _ _ _ r1, cell_of_row _ _ 1 _ _ _ r1, cell_of_row _ _ 2 _ _ _ r1, hw.free 0, hw.free 1, hw.free 2, hw.some (by omega), hw.some (by omega), hw.some (by omega)⟩
    have A0' : Abx wc w.heap.size 3 107 wc := (Ab.refl wc).x rfl (A1.heap r8.out)
    clear r10 KC r8
    go_upto_region 3 with fail
    go_region_held3 (fun w' => Abx wc w.heap.size 3 107 w' /\ w'.cell? ⟨w.heap.size + 1, 0, none⟩ = some (.int .i64 (cC f).1) /\ w'.cell? ⟨w.heap.size + 1, 1, none⟩ = some (.int .i64 (cC f).2.1) /\ w'.cell? ⟨w.heap.size + 1, 2, none⟩ = some (.int .i64 (cC f).2.2) /\ w'.cell? ⟨g10, 0, none⟩ = some (.int .i64 (pl (sc a (cR f)) (sc b (cU f))).1) /\ w'.cell? ⟨g10, 1, none⟩ = some (.int .i64 (pl (sc a (cR f)) (sc b (cU f))).2.1) /\ w'.cell? ⟨g10, 2, none⟩ = some (.int .i64 (pl (sc a (cR f)) (sc b (cU f))).2.2) /\ w'.frozen? ⟨w.heap.size, 0, none⟩ = false /\ w'.frozen? ⟨w.heap.size, 1, none⟩ = false /\ w'.frozen? ⟨w.heap.size, 2, none⟩ = false /\ w'.cell? ⟨w.heap.size, 0, none⟩ = some (rv w' w.heap.size 0) /\ w'.cell? ⟨w.heap.size, 1, none⟩ = some (rv w' w.heap.size 1) /\ w'.cell? ⟨w.heap.size, 2, none⟩ = some (rv w' w.heap.size 2)) ((refine KS.out _ ?_; (with_reducible (repeat (first | assumption | apply Abx.drew | apply Abx.set | (refine Abx.call ?_ (by assumption))))); done)) (first
      | (go_at_call 125; refine (T3.out _).mono ?_; rintro e w1 ⟨rfl, b1⟩)
      | (go_at_call 126; refine (P2.out _).mono ?_; rintro e w2 ⟨rfl, b2⟩))
    go_wp2
    have A2 := (A0'.drew.call b1).call b2
    refine bodyPost_ret ?_ rfl ⟨rfl, ?_⟩
    · exact results_cell_row Tryz.results86 _ _ w.heap.size _ _ (0, 0) _ rfl (set3 A2) Tryz.underlying107 rfl (by kernel_rfl)
    · exact (((A2.set 0 _).set 1 _).set 2 _).ab (AW.out.trans A1) (Nat.le_refl _)
end Go.Proofs.YtdigecacmibkpaaGreatDoor

namespace Go.Proofs.YtdigecacmibkpaaGreatDoor
open Go.RowKit Cu
theorem info_int : ∃ i, Tryz.prog.info? 3 = some i := by
  cases h : Tryz.prog.info? 3 with
  | none =>
    have : (Tryz.prog.info? 3).isSome = true := by kernel_rfl
    rw [h] at this; cases this
  | some i => exact ⟨i, rfl⟩
theorem pt_cmp (d : Nat) (p q : P3) (w : World) : (Op.equalIn (d + 2) 107 (.agg #[.int .i64 p.1, .int .i64 p.2.1, .int .i64 p.2.2]) (.agg #[.int .i64 q.1, .int .i64 q.2.1, .int .i64 q.2.2])).run Tryz.prog w = .ok (decide (p = q)) w := by
  obtain ⟨i, hi⟩ := info_int
  obtain ⟨a, b, c⟩ := p
  obtain ⟨x, y, z⟩ := q
  rw [run_equalIn_array w (d + 1) _ _ Tryz.underlying107 hi]
  have k0 : Tryz.prog.cellsOf 3 = 1 := by kernel_rfl
  have hp : Tryz.prog.plainKey 3 = true := by kernel_rfl
  rw [k0, show List.range 3 = [0, 1, 2] from rfl]
  have e : ∀ s t : Int, (Op.equalIn (d + 1) 3 (.int .i64 s) (.int .i64 t)).run Tryz.prog w = .ok (s == t) w := fun s t => run_equalIn_int w d 3 .i64 .i64 s t Tryz.underlying3
  have p0 : ∀ r s t : Int, (part 3 #[.int .i64 r, .int .i64 s, .int .i64 t] (0 * 1)).run Tryz.prog w = .ok (.int .i64 r) w := fun r s t => run_part_plain w hp rfl
  have p1 : ∀ r s t : Int, (part 3 #[.int .i64 r, .int .i64 s, .int .i64 t] (1 * 1)).run Tryz.prog w = .ok (.int .i64 s) w := fun r s t => run_part_plain w hp rfl
  have p2 : ∀ r s t : Int, (part 3 #[.int .i64 r, .int .i64 s, .int .i64 t] (2 * 1)).run Tryz.prog w = .ok (.int .i64 t) w := fun r s t => run_part_plain w hp rfl
  simp only [Op.eqItems, Sem.run_bind, p0, e, Result.andThen_ok]
  by_cases h1 : a = x <;> by_cases h2 : b = y <;> by_cases h3 : c = z <;> simp [h1, h2, h3, e, p1, p2, Sem.run_bind]
end Go.Proofs.YtdigecacmibkpaaGreatDoor

namespace Go.Proofs.YtdigecacmibkpaaGreatDoor
open Go.RowKit
theorem cls (w : World) : ∃ (U : Type) (F : U -> World), (∀ u, Ab w (F u)) /\ (∀ w', Ab w w' -> ∃ u, w' = F u) :=
  ⟨{u : World // Ab w u}, Subtype.val, fun u => u.2, fun w' h => ⟨⟨w', h⟩, rfl⟩⟩
theorem region_cls {P : Program} {id : Nat} {Q : Exit -> Act -> World -> Prop} {a : Act} {w : World} {l : List Oper} {U : Type} (F : U -> World) (hm : P.follows .mixedOrders = true) (hB : Region.lexB .any l.toArray = true)
    (hC : ∃ u, w.drew = F u)
    (h : wpQuiet P l.toArray (fun w' => ∃ u, w' = F u) (fun a' => ∀ w', (∃ u, w' = F u) -> Q .normal a' w') l a) : (Code.region id l.toArray true).wp P Q a w :=
  wp_region_quiet (C := fun w' => ∃ u, w' = F u) hm hB hC (by simpa using h)
theorem calls_cls {P : Program} {f : FuncId} {args : Array Value} {U : Type} {F : U -> World} {u : U} {v : Value} {w0 : World} (hF : Hid (∀ w', Ab w0 w' -> ∃ u, w' = F u)) (hF1 : Hid (∀ u, Ab w0 (F u)))
    (h : Calls P f args (F u) fun e w' => e = .returned v /\ Below (F u).heap.size (F u) w') : Calls P f args (F u) fun e w'' => e = .returned v /\ ∃ u, w'' = F u :=
  h.mono fun _ _ ⟨he, hb⟩ => ⟨he, hF.out _ ((hF1.out u).call hb)⟩
end Go.Proofs.YtdigecacmibkpaaGreatDoor

namespace Go.Proofs.YtdigecacmibkpaaGreatDoor
open Go.RowKit Cu
theorem least_u (N k0 : Nat) (m : Nat -> Bool) (g0 g1 : Nat) (w : World) (hN : (N : Int) <= 24) (hk : (k0 : Int) < N) (h1 : m k0 = true) (h2 : ∀ k, k < k0 -> m k = false)
    (H : Hid (∀ k : Nat, k < N -> ∀ w', Ab w w' -> Calls Tryz.prog 124 #[.int .i64 k, .pointer (some ⟨g0, 0, none⟩), .pointer (some ⟨g1, 0, none⟩)] w' fun e w'' => e = .returned (.bool (m k)) /\ Below w'.heap.size w' w'')) :
    Calls Tryz.prog 123 #[.int .i64 N, .func (.func 124) #[] #[.pointer (some ⟨g0, 0, none⟩), .pointer (some ⟨g1, 0, none⟩)]] w fun e w' => e = .returned (.int .i64 k0) /\ Below w.heap.size w w' := by
  have H1 := hid h1
  have H2 := hid h2
  clear h1 h2
  go_enter Tryz.func123, Tryz.ntmps123
  go_wp2
  go_loopw [7] (fun iv wr => ∃ k : Nat, k <= k0 /\ iv = .int .i64 (k : Nat) /\ Ab w wr) (fun iv _ => k0 - (intOf iv).toNat)
  case atStart => exact ⟨0, by omega, rfl, Ab.refl _⟩
  case round =>
    obtain ⟨k, hk0, rfl, A⟩ := hrel
    have hkN : (k : Int) < N := by omega
    by_cases he : k = k0
    · subst he
      have C := H.out k (by omega) wr A
      rw [H1.out] at C
      have C' := hid C
      clear C H H1 H2
      go_wp2_with fail
      refine C'.out.mono ?_
      rintro e w1 ⟨rfl, b1⟩
      go_wp2
      go_ret
      exact ⟨rfl, A.call b1⟩
    · have C := H.out k (by omega) wr A
      rw [H2.out k (by omega)] at C
      have C' := hid C
      clear C
      go_wp2_with fail
      refine C'.out.mono ?_
      rintro e w1 ⟨rfl, b1⟩
      go_wp2
      go_roundw
      case rel => exact ⟨k + 1, by omega, by simp, A.call b1⟩
      case measure => simp [intOf]; omega
theorem least_s (N k0 : Nat) (m : Nat -> Bool) (g0 g1 : Nat) (w : World) (hN : (N : Int) <= 24) (hk : (k0 : Int) < N) (h1 : m k0 = true) (h2 : ∀ k, k < k0 -> m k = false)
    (H : Hid (∀ k : Nat, k < N -> ∀ w', Ab w w' -> Calls Tryz.prog 127 #[.int .i64 k, .pointer (some ⟨g0, 0, none⟩), .pointer (some ⟨g1, 0, none⟩)] w' fun e w'' => e = .returned (.bool (m k)) /\ Below w'.heap.size w' w'')) :
    Calls Tryz.prog 123 #[.int .i64 N, .func (.func 127) #[] #[.pointer (some ⟨g0, 0, none⟩), .pointer (some ⟨g1, 0, none⟩)]] w fun e w' => e = .returned (.int .i64 k0) /\ Below w.heap.size w w' := by
  have H1 := hid h1
  have H2 := hid h2
  clear h1 h2
  go_enter Tryz.func123, Tryz.ntmps123
  go_wp2
  go_loopw [7] (fun iv wr => ∃ k : Nat, k <= k0 /\ iv = .int .i64 (k : Nat) /\ Ab w wr) (fun iv _ => k0 - (intOf iv).toNat)
  case atStart => exact ⟨0, by omega, rfl, Ab.refl _⟩
  case round =>
    obtain ⟨k, hk0, rfl, A⟩ := hrel
    have hkN : (k : Int) < N := by omega
    by_cases he : k = k0
    · subst he
      have C := H.out k (by omega) wr A
      rw [H1.out] at C
      have C' := hid C
      clear C H H1 H2
      go_wp2_with fail
      refine C'.out.mono ?_
      rintro e w1 ⟨rfl, b1⟩
      go_wp2
      go_ret
      exact ⟨rfl, A.call b1⟩
    · have C := H.out k (by omega) wr A
      rw [H2.out k (by omega)] at C
      have C' := hid C
      clear C
      go_wp2_with fail
      refine C'.out.mono ?_
      rintro e w1 ⟨rfl, b1⟩
      go_wp2
      go_roundw
      case rel => exact ⟨k + 1, by omega, by simp, A.call b1⟩
      case measure => simp [intOf]; omega
theorem under1_at (k n : Nat) (p : P3) (g0 g1 : Nat) (w : World) (hk : k < 6) (hp : Sm p) (h : Fr w) (hg0 : g0 < w.heap.size) (hg1 : g1 < w.heap.size) (ha : Pc w g0 0 p) (hs : w.cell? ⟨g1, 0, none⟩ = some (.int .i64 n)) :
    Calls Tryz.prog 124 #[.int .i64 k, .pointer (some ⟨g0, 0, none⟩), .pointer (some ⟨g1, 0, none⟩)] w fun e w' => e = .returned (.bool (decide (dt p (cC k) = n))) /\ Below w.heap.size w w' := by
  obtain ⟨U, F, hF1, hF2⟩ := cls w
  have HF := hid hF2
  have HF1 := hid hF1
  have x0 : ∀ u, (F u).cell? ⟨g0, 0, none⟩ = some (.int .i64 p.1) := fun u => ((hF1 u).pc hg0 ha).1
  have x1 : ∀ u, (F u).cell? ⟨g0, 1, none⟩ = some (.int .i64 p.2.1) := fun u => ((hF1 u).pc hg0 ha).2.1
  have x2 : ∀ u, (F u).cell? ⟨g0, 2, none⟩ = some (.int .i64 p.2.2) := fun u => ((hF1 u).pc hg0 ha).2.2
  have x3 : ∀ u, (F u).cell? ⟨g1, 0, none⟩ = some (.int .i64 n) := fun u => (Below.cell (hF1 u) (by exact hg1)).trans hs
  have y0 : ∀ u, (F u).cell? ⟨1, k * 9, none⟩ = some (.int .i64 (cC k).1) := fun u => ((h.to (hF1 u)).2 k hk).1.1
  have y1 : ∀ u, (F u).cell? ⟨1, k * 9 + 1, none⟩ = some (.int .i64 (cC k).2.1) := fun u => ((h.to (hF1 u)).2 k hk).1.2.1
  have y2 : ∀ u, (F u).cell? ⟨1, k * 9 + 2, none⟩ = some (.int .i64 (cC k).2.2) := fun u => ((h.to (hF1 u)).2 k hk).1.2.2
  have T := hid (fun w => along_at p (cC k) w hp (un_C hk))
  have hk' : (k : Int) < 6 := by omega
  have D := HF.out _ (Ab.refl w).drew
  clear hF1 hF2 h ha hs hk
  go_enter Tryz.func124, Tryz.ntmps124
  go_wp2_with fail
  refine region_cls F (by kernel_rfl) (by kernel_rfl) D ?_
  repeat (go_big_quiet_step (first | rfl | (go_at_call 121; exact calls_cls HF HF1 (T.out _))))
  refine wpQuiet_nil ?_
  intro wz hwz
  obtain ⟨u, rfl⟩ := hwz
  go_wp2
  go_ret
  exact ⟨by simp [Bool.beq_eq_decide_eq], HF1.out u⟩
theorem sideOf1_at (k f : Nat) (p : P3) (g0 g1 : Nat) (w : World) (hk : k < 4) (hf : f < 6) (h : Fr w) (hg0 : g0 < w.heap.size) (hg1 : g1 < w.heap.size) (ha : Pc w g1 0 p) (hs : w.cell? ⟨g0, 0, none⟩ = some (.int .i64 f)) :
    Calls Tryz.prog 127 #[.int .i64 k, .pointer (some ⟨g0, 0, none⟩), .pointer (some ⟨g1, 0, none⟩)] w fun e w' => e = .returned (.bool (decide (wy f k = p))) /\ Below w.heap.size w w' := by
  obtain ⟨U, F, hF1, hF2⟩ := cls w
  have HF := hid hF2
  have HF1 := hid hF1
  have x0 : ∀ u, (F u).cell? ⟨g1, 0, none⟩ = some (.int .i64 p.1) := fun u => ((hF1 u).pc hg1 ha).1
  have x1 : ∀ u, (F u).cell? ⟨g1, 1, none⟩ = some (.int .i64 p.2.1) := fun u => ((hF1 u).pc hg1 ha).2.1
  have x2 : ∀ u, (F u).cell? ⟨g1, 2, none⟩ = some (.int .i64 p.2.2) := fun u => ((hF1 u).pc hg1 ha).2.2
  have x3 : ∀ u, (F u).cell? ⟨g0, 0, none⟩ = some (.int .i64 f) := fun u => (Below.cell (hF1 u) (by exact hg0)).trans hs
  have T := hid (fun u => way_at f k (F u) hf hk (h.to (hF1 u)))
  have D := HF.out _ (Ab.refl w).drew
  have EQ : ∀ u, (Op.equalIn 10000 107 (.agg #[.int .i64 (wy f k).1, .int .i64 (wy f k).2.1, .int .i64 (wy f k).2.2]) (.agg #[.int .i64 p.1, .int .i64 p.2.1, .int .i64 p.2.2])).run Tryz.prog (F u) = .ok (decide (wy f k = p)) (F u) := fun u => pt_cmp 9998 _ _ _
  clear hF1 hF2 h ha hs hk hf
  go_enter Tryz.func127, Tryz.ntmps127
  go_wp2_with fail
  refine region_cls F (by kernel_rfl) (by kernel_rfl) D ?_
  repeat (go_big_quiet_step (first | rfl | (go_at_call 89; exact calls_cls HF HF1 (T.out _))))
  refine wpQuiet_nil ?_
  intro wz hwz
  obtain ⟨u, rfl⟩ := hwz
  go_wp2
  go_ret
  exact ⟨rfl, HF1.out u⟩
end Go.Proofs.YtdigecacmibkpaaGreatDoor

namespace Go.Proofs.YtdigecacmibkpaaGreatDoor
open Go.RowKit Cu
theorem wr6 {x : Int} (h : -1000000 <= x /\ x <= 1000000) : wrap64 x = x := by unfold wrap64; omega
theorem below_wr {w W w' : World} (h : Ab w W) (b : Below W.heap.size W w') : Below w.heap.size w w' := h.call b
theorem sideOf_at (f s : Nat) (p : P3) (w : World) (hf : f < 6) (hs : s < 4) (hp : wy f s = p) (h : Fr w) :
    Calls Tryz.prog 88 #[.int .i64 f, .agg #[.int .i64 p.1, .int .i64 p.2.1, .int .i64 p.2.2]] w fun e w' => e = .returned (.int .i64 s) /\ Below w.heap.size w w' := by
  have hmf : ∀ (fn : Fn) (first cap : Array Value) (w : World), (Instr.makeFunc fn first cap).run Tryz.prog w = .ok (.func fn first cap) w := fun _ _ _ _ => rfl
  have A1 : Ab w ((w.alloc (.cells #[.int .i64 f] 3)).alloc (.cells #[.int .i64 p.1, .int .i64 p.2.1, .int .i64 p.2.2] 107)) := bl2 _ _ _
  have L := hid (least_s 4 s (fun k => decide (wy f k = p)) w.heap.size (w.heap.size + 1) ((w.alloc (.cells #[.int .i64 f] 3)).alloc (.cells #[.int .i64 p.1, .int .i64 p.2.1, .int .i64 p.2.2] 107)) (by decide) (by omega) (by simp [hp])
    (fun k hk => by simp only [decide_eq_false_iff_not]; intro e; have := wy_inj f hf s hs k (by omega) (e.trans hp.symm); omega)
    (hid (fun k hk w' hw => sideOf1_at k f p w.heap.size (w.heap.size + 1) w' hk hf (h.to (A1.trans hw)) (Nat.lt_of_lt_of_le (by simp; omega) hw.size) (Nat.lt_of_lt_of_le (by simp) hw.size)
      (pc_row (hw.heap (heap_alloc2_new _ _ _))) (cell_of_row _ _ 0 _ _ _ (hw.heap (heap_alloc2_old _ _ _))))))
  have AW := hid A1
  clear hp h A1
  go_enter Tryz.func88, Tryz.ntmps88
  go_wp2_with fail
  refine L.out.mono ?_
  rintro e w1 ⟨rfl, b1⟩
  go_wp2
  go_ret
  exact ⟨rfl, below_wr AW.out b1⟩
theorem under_at (n f i j : Nat) (p : P3) (w : World) (hn : 1 <= n /\ n <= 32) (hf : f < 6) (hi : i < n) (hj : j < n) (hp : md n f i j = p) (h : Fr w) :
    Calls Tryz.prog 84 #[.int .i64 n, .agg #[.int .i64 p.1, .int .i64 p.2.1, .int .i64 p.2.2]] w fun e w' => e = .returned (.tuple #[.int .i64 f, .int .i64 i, .int .i64 j]) /\ Below w.heap.size w w' := by
  have hmf : ∀ (fn : Fn) (first cap : Array Value) (w : World), (Instr.makeFunc fn first cap).run Tryz.prog w = .ok (.func fn first cap) w := fun _ _ _ _ => rfl
  have A1 : Ab w ((w.alloc (.cells #[.int .i64 n] 3)).alloc (.cells #[.int .i64 p.1, .int .i64 p.2.1, .int .i64 p.2.2] 107)) := bl2 _ _ _
  have hm := md_le hf hi hj hn.2
  rw [hp] at hm
  have hsm : Sm p := by unfold Sm; omega
  have hd := md_dt (n := n) (i := i) (j := j) hf
  rw [hp] at hd
  have L := hid (least_u 6 f (fun k => decide (dt p (cC k) = n)) (w.heap.size + 1) w.heap.size ((w.alloc (.cells #[.int .i64 n] 3)).alloc (.cells #[.int .i64 p.1, .int .i64 p.2.1, .int .i64 p.2.2] 107)) (by decide) (by omega) (by simp [hd.1])
    (fun k hk => by simp only [decide_eq_false_iff_not]; rw [<- hp, md_face hf (by omega) hi hj]; omega)
    (hid (fun k hk w' hw => under1_at k n p (w.heap.size + 1) w.heap.size w' hk hsm (h.to (A1.trans hw)) (Nat.lt_of_lt_of_le (by simp) hw.size) (Nat.lt_of_lt_of_le (by simp; omega) hw.size)
      (pc_row (hw.heap (heap_alloc2_new _ _ _))) (cell_of_row _ _ 0 _ _ _ (hw.heap (heap_alloc2_old _ _ _))))))
  have T1 : Hid (∀ w, Calls Tryz.prog 121 #[.agg #[.int .i64 p.1, .int .i64 p.2.1, .int .i64 p.2.2], .agg #[.int .i64 (cR f).1, .int .i64 (cR f).2.1, .int .i64 (cR f).2.2]] w fun e w' => e = .returned (.int .i64 (2 * i + 1 - n)) /\ Below w.heap.size w w') := fun w => by rw [<- hd.2.1]; exact along_at p (cR f) w hsm (un_R hf)
  have T2 : Hid (∀ w, Calls Tryz.prog 121 #[.agg #[.int .i64 p.1, .int .i64 p.2.1, .int .i64 p.2.2], .agg #[.int .i64 (cU f).1, .int .i64 (cU f).2.1, .int .i64 (cU f).2.2]] w fun e w' => e = .returned (.int .i64 (2 * j + 1 - n)) /\ Below w.heap.size w w') := fun w => by rw [<- hd.2.2]; exact along_at p (cU f) w hsm (un_U hf)
  have AW := hid A1
  have HH := hid h
  have hf' : (f : Int) < 6 := by omega
  have V1 : Hid (wrap64 ((wrap64 (wrap64 (2 * (i : Int) + 1) - 1)).tdiv 2) = i) := by
    show _ = _
    rw [wr6 (x := 2 * (i : Int) + 1) (by omega), show 2 * (i : Int) + 1 - 1 = 2 * i by omega, wr6 (x := 2 * (i : Int)) (by omega), Int.mul_tdiv_cancel_left _ (by decide)]; exact wr6 (by omega)
  have V2 : Hid (wrap64 ((wrap64 (wrap64 (2 * (j : Int) + 1) - 1)).tdiv 2) = j) := by
    show _ = _
    rw [wr6 (x := 2 * (j : Int) + 1) (by omega), show 2 * (j : Int) + 1 - 1 = 2 * j by omega, wr6 (x := 2 * (j : Int)) (by omega), Int.mul_tdiv_cancel_left _ (by decide)]; exact wr6 (by omega)
  have HN := hid hn
  have H0 := h.1
  clear hp h A1 hd hsm hm hn hi hj
  go_enter Tryz.func84, Tryz.ntmps84
  go_wp2_with fail
  refine L.out.mono ?_
  rintro e w1 ⟨rfl, b1⟩
  have A2 : Ab w w1 := below_wr AW.out b1
  obtain ⟨⟨k0, k1, k2⟩, ⟨k3, k4, k5⟩, ⟨k6, k7, k8⟩⟩ := (HH.out.to A2).2 f (by omega)
  have hz : 1 < w1.heap.size := Nat.lt_of_lt_of_le H0 A2.size
  have B1 := hid b1
  have A2' := hid A2
  clear b1 A2 L HN
  go_upto_region 3 with fail
  generalize hW : World.alloc w1 _ = W
  have A3 : Ab w1 W := by rw [<- hW]; exact bl1 _ _
  have r8 : W.heap[w1.heap.size]? = some (.cells #[.int .i64 (cC f).1, .int .i64 (cC f).2.1, .int .i64 (cC f).2.2, .int .i64 (cR f).1, .int .i64 (cR f).2.1, .int .i64 (cR f).2.2, .int .i64 (cU f).1, .int .i64 (cU f).2.1, .int .i64 (cU f).2.2] 144) := by rw [<- hW]; exact heap_alloc_new _ _
  have A4 : Ab ((w.alloc (.cells #[.int .i64 n] 3)).alloc (.cells #[.int .i64 p.1, .int .i64 p.2.1, .int .i64 p.2.2] 107)) W := Ab.trans B1.out A3
  have r3 := A4.heap (heap_alloc2_new _ _ _)
  have r2 := A4.heap (heap_alloc2_old _ _ _)
  obtain ⟨U, F, hF1, hF2⟩ := cls W
  have HF := hid hF2
  have HF1 := hid hF1
  have x0 : ∀ u, (F u).cell? ⟨w.heap.size + 1, 0, none⟩ = some (.int .i64 p.1) := fun u => cell_of_row _ _ 0 _ _ _ ((hF1 u).heap r3)
  have x1 : ∀ u, (F u).cell? ⟨w.heap.size + 1, 1, none⟩ = some (.int .i64 p.2.1) := fun u => cell_of_row _ _ 1 _ _ _ ((hF1 u).heap r3)
  have x2 : ∀ u, (F u).cell? ⟨w.heap.size + 1, 2, none⟩ = some (.int .i64 p.2.2) := fun u => cell_of_row _ _ 2 _ _ _ ((hF1 u).heap r3)
  have x3 : ∀ u, (F u).cell? ⟨w.heap.size, 0, none⟩ = some (.int .i64 n) := fun u => cell_of_row _ _ 0 _ _ _ ((hF1 u).heap r2)
  have y0 : ∀ u, (F u).cell? ⟨w1.heap.size, 3, none⟩ = some (.int .i64 (cR f).1) := fun u => cell_of_row _ _ 3 _ _ _ ((hF1 u).heap r8)
  have z0 : ∀ u, (F u).cell? ⟨w1.heap.size, 6, none⟩ = some (.int .i64 (cU f).1) := fun u => cell_of_row _ _ 6 _ _ _ ((hF1 u).heap r8)
  have y1 : ∀ u, (F u).cell? ⟨w1.heap.size, 4, none⟩ = some (.int .i64 (cR f).2.1) := fun u => cell_of_row _ _ 4 _ _ _ ((hF1 u).heap r8)
  have z1 : ∀ u, (F u).cell? ⟨w1.heap.size, 7, none⟩ = some (.int .i64 (cU f).2.1) := fun u => cell_of_row _ _ 7 _ _ _ ((hF1 u).heap r8)
  have y2 : ∀ u, (F u).cell? ⟨w1.heap.size, 5, none⟩ = some (.int .i64 (cR f).2.2) := fun u => cell_of_row _ _ 5 _ _ _ ((hF1 u).heap r8)
  have z2 : ∀ u, (F u).cell? ⟨w1.heap.size, 8, none⟩ = some (.int .i64 (cU f).2.2) := fun u => cell_of_row _ _ 8 _ _ _ ((hF1 u).heap r8)
  have D := HF.out _ (Ab.refl W).drew
  have AA := hid (A2'.out.trans A3)
  clear hF1 hF2 r2 r3 r8 k0 k1 k2 k3 k4 k5 k6 k7 k8 A3 A4 hW B1 A2'
  refine region_cls F (by kernel_rfl) (by kernel_rfl) D ?_
  repeat (go_big_quiet_step (first | rfl | (go_at_call_of 121 (cR f); exact calls_cls HF HF1 (T1.out _)) | (go_at_call_of 121 (cU f); exact calls_cls HF HF1 (T2.out _))))
  refine wpQuiet_nil ?_
  intro wz hwz
  obtain ⟨u, rfl⟩ := hwz
  go_wp2
  refine bodyPost_ret (v := .tuple #[.int .i64 f, .int .i64 i, .int .i64 j]) (by simp [results, Tryz.results84, go_sem, V1.out, V2.out]) rfl ⟨rfl, AA.out.trans (HF1.out u)⟩
end Go.Proofs.YtdigecacmibkpaaGreatDoor
