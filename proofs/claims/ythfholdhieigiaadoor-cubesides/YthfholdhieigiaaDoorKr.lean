/-
  awake, and numbers within bounds: contracts.
-/
import Derived.Test.YthfholdhieigiaaDoorKm
import Derived.Test.YthfholdhieigiaaDoorKn
namespace Go.Proofs.YthfholdhieigiaaDoor
open Go.RowKit Cu
set_option maxHeartbeats 2000000 in
theorem awake_at (w : World) (h : Fr w) : Calls Tryd.prog 4 #[] w fun e w' => e = .returned (.bool true) ∧ Below w.heap.size w w' := by
  have B1 : Hid (∀ u, Ab w u → Calls Tryd.prog 5 #[.int .i64 2, .int .i64 1, .int .i64 0] u fun e w' => e = .returned (.tuple #[.int .i64 4, .int .i64 2]) ∧ Below u.heap.size u w') := fun u hu => by
    have := beside_at 2 1 0 u (by omega) (by omega) (by omega) (h.to hu)
    rw [show bsC 2 1 0 = 4 by decide, show bsS 2 1 0 = 2 by decide] at this
    exact this
  have B2 : Hid (∀ u, Ab w u → Calls Tryd.prog 5 #[.int .i64 2, .int .i64 1, .int .i64 3] u fun e w' => e = .returned (.tuple #[.int .i64 23, .int .i64 1]) ∧ Below u.heap.size u w') := fun u hu => by
    have := beside_at 2 1 3 u (by omega) (by omega) (by omega) (h.to hu)
    rw [show bsC 2 1 3 = 23 by decide, show bsS 2 1 3 = 1 by decide] at this
    exact this
  have T1 : Hid (∀ u, Ab w u → Calls Tryd.prog 7 #[.int .i64 2, .int .i64 4, .int .i64 1] u fun e w' => e = .returned (.tuple #[.int .i64 6, .int .i64 2]) ∧ Below u.heap.size u w') := fun u hu => by
    have := turn_at 2 4 1 u (by omega) (by omega) (by omega) (h.to hu)
    rw [show tnC 2 4 1 = 6 by decide +kernel, show tnS 2 4 1 = 2 by decide +kernel] at this
    exact this
  have P1 : Hid (∀ u, Calls Tryd.prog 9 #[.int .i64 3, .int .i64 44] u fun e w' => e = .returned (.tuple #[.int .i64 4, .int .i64 2, .int .i64 2, .bool true]) ∧ ∃ k, w' = u.drewN k) := fun u => place_ok 3 44 (by omega) (by omega) u
  have C1 : Hid (∀ u, Calls Tryd.prog 10 #[.int .i64 2] u fun e w' => e = .returned (.int .i64 24) ∧ w' = u) := fun u => cells_at 2 u
  have C2 : Hid (∀ u, Calls Tryd.prog 11 #[.int .i64 3, .int .i64 4, .int .i64 2, .int .i64 2] u fun e w' => e = .returned (.int .i64 44) ∧ w' = u) := fun u => cell_at 3 4 2 2 u
  have F1 : Hid (∀ u, Ab w u → Calls Tryd.prog 12 #[.int .i64 1, .int .i64 4] u fun e w' => e = .returned (.int .i64 12) ∧ Below u.heap.size u w') := fun u hu => by
    have := after_ok 1 4 u (by omega) (by omega) (h.to hu)
    rw [show aft 1 4 = 12 by decide +kernel] at this
    exact this
  clear h
  go_enter Tryd.func4, Tryd.ntmps4
  go_wp2_with fail
  refine (B1.out _ (Ab.refl w)).mono ?_
  rintro e w1 ⟨rfl, b1⟩
  have A1 : Ab w w1 := b1
  go_wp2_with fail
  refine (B2.out _ A1).mono ?_
  rintro e w2 ⟨rfl, b2⟩
  have A2 := A1.call b2
  go_wp2_with fail
  refine (T1.out _ A2).mono ?_
  rintro e w3 ⟨rfl, b3⟩
  have A3 := A2.call b3
  go_wp2_with fail
  refine (P1.out _).mono ?_
  rintro e w4 ⟨rfl, k, rfl⟩
  have A4 := A3.drewN k
  go_wp2_with fail
  refine (C1.out _).mono ?_
  rintro e w5 ⟨rfl, rfl⟩
  go_wp2_with fail
  refine (C2.out _).mono ?_
  rintro e w6 ⟨rfl, rfl⟩
  go_wp2_with fail
  refine (F1.out _ A4).mono ?_
  rintro e w7 ⟨rfl, b7⟩
  go_wp2
  go_ret
  exact ⟨rfl, A4.call b7⟩
/-- x brought within n -/
def wi (x : Int) (n : Nat) : Nat := ((x % 18446744073709551616) % n).toNat
theorem wi_lt {x : Int} {n : Nat} (hn : 1 ≤ n) : wi x n < n := by
  unfold wi
  have := Int.emod_lt_of_pos (x % 18446744073709551616) (show (0 : Int) < n by omega)
  have := Int.emod_nonneg (x % 18446744073709551616) (show (n : Int) ≠ 0 by omega)
  omega
end Go.Proofs.YthfholdhieigiaaDoor
