/-
  Parts and cuts: what is to be answered; the reference's (layer 14).
-/
import Derived.Test.YthcgbjkbnbeobaaUf
import Derived.Test.YthcgbjkbnbeobaaUd
namespace Go.Proofs.Ythcgbjkbnbeobaa
open Go.RowKit Go.Deep
namespace Sh
/-- within 64 bits -/
def W64 (x : Int) : Prop := -9223372036854775808 ≤ x ∧ x ≤ 9223372036854775807
/-- whether outs can be cut -/
def good (W : Int) (n : Nat) (f : Nat → Int) : Prop := 0 ≤ W ∧ (∀ i, i < n → 0 ≤ f i) ∧ sumN f n ≤ 9223372036854775807
/-- the outs, cut -/
def cutL (W : Int) (n : Nat) (f : Nat → Int) : List Int := (List.range n).map fun i => cut1 W (sumN f n) (f i)
end Sh
end Go.Proofs.Ythcgbjkbnbeobaa
