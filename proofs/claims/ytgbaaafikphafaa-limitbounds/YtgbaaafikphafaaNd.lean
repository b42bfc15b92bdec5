/-
  Units of vectors: walks over the program.
-/
import Derived.Test.YtgbaaafikphafaaNc
namespace Go.Proofs.Ytgbaaafikphafaa
open Go.RowKit Tf
attribute [local go_sem] run_bits run_from raw_feq raw_fne raw_flt raw_fgt run_neg run_store_float
/-- is it a length by which a vector is divided? -/
def lvB (l : Nat) : Bool := fgt l 0 && !fgt l 9218868437227405311
def unB (l x : Nat) : Nat := if lvB l = true then dvB x l else 0
theorem unB_lt (l x : Nat) : unB l x < 18446744073709551616 := by
  unfold unB
  split
  · unfold dvB
    split
    · next r h => exact canon_lt (div_lt h)
    · decide
  · decide
theorem unB_canon (l x : Nat) : canonB (unB l x) = unB l x := by
  unfold unB
  split
  · exact dvB_canon x l
  · decide
end Go.Proofs.Ytgbaaafikphafaa
