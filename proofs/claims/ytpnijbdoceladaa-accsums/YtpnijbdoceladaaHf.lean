/-
  Sums in another order: plain arithmetic of the states.
-/
import Derived.Test.YtpnijbdoceladaaGy
namespace Go.Proofs.Ytpnijbdoceladaa
open Go.RowKit Tf
theorem sumS_succ (xs : Nat → Nat) (k : Nat) : sumS xs (k + 1) = plusS (sumS xs k) (unitA (xs k)) := stepA_plus _ _
theorem sumS_congr {xs ys : Nat → Nat} {n : Nat} (h : ∀ k, k < n → xs k = ys k) : sumS xs n = sumS ys n := by
  induction n with
  | zero => rfl
  | succ n ih => rw [sumS_succ, sumS_succ, ih (fun k hk => h k (by omega)), h n (by omega)]
theorem sumS_add (xs : Nat → Nat) (a b : Nat) : sumS xs (a + b) = plusS (sumS xs a) (sumS (fun k => xs (a + k)) b) := by
  induction b with
  | zero => exact (plusS_zero _).symm
  | succ b ih => rw [← Nat.add_assoc, sumS_succ, sumS_succ, ih, plusS_assoc]
theorem sumS_back (n : Nat) : ∀ xs : Nat → Nat, sumS (fun k => xs (n - 1 - k)) n = sumS xs n := by
  induction n with
  | zero => intro _; rfl
  | succ n ih =>
    intro xs
    rw [sumS_succ]
    have e : sumS (fun k => xs (n + 1 - 1 - k)) n = sumS (fun k => xs (1 + k)) n := by
      rw [← ih (fun k => xs (1 + k))]
      exact sumS_congr (fun k hk => by show xs _ = xs _; congr 1; omega)
    rw [e, Nat.add_comm n 1, sumS_add xs 1 n]
    have e2 : sumS xs 1 = unitA (xs 0) := by rw [sumS_succ]; exact zero_plusS _
    rw [e2, plusS_comm]
    congr 2
    congr 1
    omega
theorem sumS_two (xs : Nat → Nat) (a n : Nat) (h : a ≤ n) : plusS (sumS xs a) (sumS (fun k => xs (a + k)) (n - a)) = sumS xs n := by
  rw [← sumS_add]; congr 1; omega
theorem sumS_round (xs : Nat → Nat) (a n : Nat) (h : a < n) : sumS (fun k => xs ((a + k) % n)) n = sumS xs n := by
  have e := sumS_add (fun k => xs ((a + k) % n)) (n - a) a
  rw [show n - a + a = n by omega] at e
  rw [e, ← sumS_two xs a n (by omega), plusS_comm]
  congr 1
  · exact sumS_congr (fun k hk => by
      show xs _ = xs _
      rw [show a + (n - a + k) = k + n by omega, Nat.add_mod_right, Nat.mod_eq_of_lt (by omega)])
  · exact sumS_congr (fun k hk => by
      show xs _ = xs _
      rw [Nat.mod_eq_of_lt (by omega)])
end Go.Proofs.Ytpnijbdoceladaa
