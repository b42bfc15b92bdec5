/-
  Parts and cuts: what is to be answered; the reference's (layer 14).
-/
import Derived.Test.YtehadalddjbclaaUf
import Derived.Test.YtehadalddjbclaaUd
namespace Go.Proofs.Ytehadalddjbclaa
open Go.RowKit Go.Deep
namespace Sh
/-- within 64 bits -/
def W64 (x : Int) : Prop := -9223372036854775808 ≤ x ∧ x ≤ 9223372036854775807
/-- what Part is to answer -/
def PartC : Prop := ∀ (x y z : Int) (w : World), W64 x → W64 y → W64 z → Calls Try.prog 9 #[.int .i64 x, .int .i64 y, .int .i64 z] w fun e w' => e = .returned (.int .i64 (part x y z)) ∧ Below w.heap.size w w'
/-- whether outs can be cut -/
def good (W : Int) (n : Nat) (f : Nat → Int) : Prop := 0 ≤ W ∧ (∀ i, i < n → 0 ≤ f i) ∧ sumN f n ≤ 9223372036854775807
/-- the outs, cut -/
def cutL (W : Int) (n : Nat) (f : Nat → Int) : List Int := (List.range n).map fun i => cut1 W (sumN f n) (f i)
theorem rpart_at (x y z : Int) (w : World) (hx : W64 x) (hy : W64 y) (hz : W64 z) : Calls Try.prog 10 #[.int .i64 x, .int .i64 y, .int .i64 z] w fun e w' => e = .returned (.int .i64 (part x y z)) ∧ w' = w := by
  by_cases c : x < 0 ∨ y < 0 ∨ z ≤ 0
  · have e : part x y z = 0 := by unfold part; rw [if_pos c]
    rw [e]
    by_cases c1 : x < 0
    · have f1 : decide (x < 0) = true := decide_eq_true c1
      clear e c hx hy hz
      go_enter Try.func10, Try.ntmps10
      go_wp2
      go_ret
      exact ⟨rfl, rfl⟩
    · have f1 : decide (x < 0) = false := decide_eq_false c1
      by_cases c2 : y < 0
      · have f2 : decide (y < 0) = true := decide_eq_true c2
        clear e c hx hy hz
        go_enter Try.func10, Try.ntmps10
        go_wp2
        go_ret
        exact ⟨rfl, rfl⟩
      · have f2 : decide (y < 0) = false := decide_eq_false c2
        have f3 : decide (z ≤ 0) = true := decide_eq_true (by omega)
        clear e c hx hy hz
        go_enter Try.func10, Try.ntmps10
        go_wp2
        go_ret
        exact ⟨rfl, rfl⟩
  · have h0 : 0 ≤ x ∧ 0 ≤ y ∧ 0 < z := by omega
    unfold W64 at hx hy hz
    have m := mul_bd (a := x) (b := y) (m := 9223372036854775807) (by omega) (by omega) (by omega) (by omega)
    refine rpart14_go x y z (x * y / 18446744073709551616) (x * y % 18446744073709551616) (part x y z) w h0.1 h0.2.1 h0.2.2 (fun v => rprod14_at x y v (by omega) (by omega) (by omega) (by omega)) (show _ < _ by omega) (show _ ∧ _ ∧ _ from ⟨by omega, by omega, by omega⟩) (show _ = _ by omega) (by omega) (by omega) ?_ (by omega)
    show _ = _
    unfold part
    rw [if_neg c]
end Sh
end Go.Proofs.Ytehadalddjbclaa
