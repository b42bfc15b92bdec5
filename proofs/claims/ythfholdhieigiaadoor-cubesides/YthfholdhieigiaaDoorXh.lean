/-
  Beside and Turn where there is no such cell, side or turn: the reference's and the program's.
-/
import Derived.Test.YthfholdhieigiaaDoorXf
namespace Go.Proofs.YthfholdhieigiaaDoor
open Go.RowKit Cu
set_option maxHeartbeats 2000000 in
theorem rbeside_no (n c s : Int) (w : World) (h : ¬ (inR c (clN n) = true ∧ inR s 4 = true)) :
    Calls Tryd.prog 6 #[.int .i64 n, .int .i64 c, .int .i64 s] w fun e w' => e = .returned (.tuple #[.int .i64 (-1), .int .i64 0]) ∧ Below w.heap.size w w' := by
  rw [inR_iff, inR_iff] at h
  obtain ⟨m, hm⟩ : ∃ m, clN n = m := ⟨_, rfl⟩
  rw [hm] at h
  have C : Hid (∀ u, Calls Tryd.prog 21 #[.int .i64 n] u fun e w' => e = .returned (.int .i64 m) ∧ w' = u) := fun u => by rw [← hm]; exact rcells_at n u
  clear hm
  rcases (show c < 0 ∨ (0 ≤ c ∧ m ≤ c) ∨ (0 ≤ c ∧ c < m ∧ s < 0) ∨ (0 ≤ c ∧ c < m ∧ 0 ≤ s ∧ 3 < s) by omega) with h1 | h1 | h1 | h1
  all_goals
    clear h
    go_enter Tryd.func6, Tryd.ntmps6
    go_wp2_with (first
      | (go_at_call 21; refine (C.out _).mono ?_; rintro e w' ⟨rfl, rfl⟩))
    go_ret2
    exact ⟨rfl, Below.refl _ _⟩
set_option maxHeartbeats 2000000 in
theorem rturn_no (n t c : Int) (w : World) (h : ¬ (inR t 24 = true ∧ inR c (clN n) = true)) :
    Calls Tryd.prog 8 #[.int .i64 n, .int .i64 t, .int .i64 c] w fun e w' => e = .returned (.tuple #[.int .i64 (-1), .int .i64 0]) ∧ Below w.heap.size w w' := by
  rw [inR_iff, inR_iff] at h
  obtain ⟨m, hm⟩ : ∃ m, clN n = m := ⟨_, rfl⟩
  rw [hm] at h
  have C : Hid (∀ u, Calls Tryd.prog 21 #[.int .i64 n] u fun e w' => e = .returned (.int .i64 m) ∧ w' = u) := fun u => by rw [← hm]; exact rcells_at n u
  clear hm
  rcases (show t < 0 ∨ (0 ≤ t ∧ 23 < t) ∨ (0 ≤ t ∧ t ≤ 23 ∧ c < 0) ∨ (0 ≤ t ∧ t ≤ 23 ∧ 0 ≤ c ∧ m ≤ c) by omega) with h1 | h1 | h1 | h1
  all_goals
    clear h
    go_enter Tryd.func8, Tryd.ntmps8
    go_wp2_with (first
      | (go_at_call 21; refine (C.out _).mono ?_; rintro e w' ⟨rfl, rfl⟩))
    go_ret2
    exact ⟨rfl, Below.refl _ _⟩
set_option maxHeartbeats 2000000 in
theorem beside_no (n c s : Int) (w : World) (h : ¬ (inR c (clN n) = true ∧ inR s 4 = true)) :
    Calls Tryd.prog 5 #[.int .i64 n, .int .i64 c, .int .i64 s] w fun e w' => e = .returned (.tuple #[.int .i64 (-1), .int .i64 0]) ∧ Below w.heap.size w w' := by
  obtain ⟨a, ha⟩ : ∃ a, inR c (clN n) = a := ⟨_, rfl⟩
  obtain ⟨b, hb⟩ : ∃ b, inR s 4 = b := ⟨_, rfl⟩
  rw [ha, hb] at h
  have P : Hid (∀ u, Calls Tryd.prog 9 #[.int .i64 n, .int .i64 c] u fun e w' => e = .returned (.tuple #[.int .i64 (pF n c), .int .i64 (pI n c), .int .i64 (pJ n c), .bool a]) ∧ ∃ k, w' = u.drewN k) := fun u => by rw [← ha]; exact place_at n c u
  have K : Hid (∀ u, Calls Tryd.prog 13 #[.int .i64 s, .int .i64 4] u fun e w' => e = .returned (.bool b) ∧ w' = u) := fun u => by rw [← hb]; exact counts_at s 4 u
  generalize pF n c = x1 at P
  generalize pI n c = x2 at P
  generalize pJ n c = x3 at P
  clear ha hb
  cases a with
  | false =>
    clear h
    go_enter Tryd.func5, Tryd.ntmps5
    go_wp2_with (first
      | (go_at_call 9; refine (P.out _).mono ?_; rintro e w' ⟨rfl, k, rfl⟩)
      | (go_at_call 13; refine (K.out _).mono ?_; rintro e w' ⟨rfl, rfl⟩))
    go_ret2
    exact ⟨rfl, (Ab.refl w).drewN k⟩
  | true =>
    cases b with
    | true => exact absurd ⟨rfl, rfl⟩ h
    | false =>
      clear h
      go_enter Tryd.func5, Tryd.ntmps5
      go_wp2_with (first
        | (go_at_call 9; refine (P.out _).mono ?_; rintro e w' ⟨rfl, k, rfl⟩)
        | (go_at_call 13; refine (K.out _).mono ?_; rintro e w' ⟨rfl, rfl⟩))
      go_ret2
      exact ⟨rfl, (Ab.refl w).drewN k⟩
set_option maxHeartbeats 2000000 in
theorem turn_no (n c s : Int) (w : World) (h : ¬ (inR c (clN n) = true ∧ inR s 24 = true)) :
    Calls Tryd.prog 7 #[.int .i64 n, .int .i64 s, .int .i64 c] w fun e w' => e = .returned (.tuple #[.int .i64 (-1), .int .i64 0]) ∧ Below w.heap.size w w' := by
  obtain ⟨a, ha⟩ : ∃ a, inR c (clN n) = a := ⟨_, rfl⟩
  obtain ⟨b, hb⟩ : ∃ b, inR s 24 = b := ⟨_, rfl⟩
  rw [ha, hb] at h
  have P : Hid (∀ u, Calls Tryd.prog 9 #[.int .i64 n, .int .i64 c] u fun e w' => e = .returned (.tuple #[.int .i64 (pF n c), .int .i64 (pI n c), .int .i64 (pJ n c), .bool a]) ∧ ∃ k, w' = u.drewN k) := fun u => by rw [← ha]; exact place_at n c u
  have K : Hid (∀ u, Calls Tryd.prog 13 #[.int .i64 s, .int .i64 24] u fun e w' => e = .returned (.bool b) ∧ w' = u) := fun u => by rw [← hb]; exact counts_at s 24 u
  generalize pF n c = x1 at P
  generalize pI n c = x2 at P
  generalize pJ n c = x3 at P
  clear ha hb
  cases a with
  | false =>
    clear h
    go_enter Tryd.func7, Tryd.ntmps7
    go_wp2_with (first
      | (go_at_call 9; refine (P.out _).mono ?_; rintro e w' ⟨rfl, k, rfl⟩)
      | (go_at_call 13; refine (K.out _).mono ?_; rintro e w' ⟨rfl, rfl⟩))
    go_ret2
    exact ⟨rfl, (Ab.refl w).drewN k⟩
  | true =>
    cases b with
    | true => exact absurd ⟨rfl, rfl⟩ h
    | false =>
      clear h
      go_enter Tryd.func7, Tryd.ntmps7
      go_wp2_with (first
        | (go_at_call 9; refine (P.out _).mono ?_; rintro e w' ⟨rfl, k, rfl⟩)
        | (go_at_call 13; refine (K.out _).mono ?_; rintro e w' ⟨rfl, rfl⟩))
      go_ret2
      exact ⟨rfl, (Ab.refl w).drewN k⟩
end Go.Proofs.YthfholdhieigiaaDoor
