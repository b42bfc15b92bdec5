/-
  Part of a list of rows: all ways (layer 14).
-/
import Derived.Test.YtpbidcjfnkmddaaUj
import Derived.Test.YtpbidcjfnkmddaaUm
namespace Go.Proofs.Ytpbidcjfnkmddaa
open Go.RowKit Go.Deep
namespace Sh
theorem lit_w {x : Int} (h : (Lit.int .i64 x).wf = true) : -9223372036854775808 ≤ x ∧ x ≤ 9223372036854775807 := by
  simp only [Lit.wf, Bool.and_eq_true, decide_eq_true_eq] at h
  have q1 : IntKind.i64.min = -9223372036854775808 := by decide
  have q2 : IntKind.i64.max = 9223372036854775807 := by decide
  omega
theorem parts_at (PC : PartC) (CC : CutC) (a0 : Option Addr) (len cap : Nat) (w : World) (h : len = 0 ∨ ∃ b off, a0 = some ⟨b, off, none⟩ ∧ b < w.heap.size ∧ ∀ j, j < len → Three3 w b (off + j * 3)) :
    Calls Try.prog 3 #[.slice a0 len cap] w fun e w' => e = .returned (.bool true) ∧ Below w.heap.size w w' := by
  by_cases hl : 65536 < len
  · exact parts_long PC CC a0 len cap w hl
  · rcases h with rfl | ⟨b, off, rfl, hb, hc⟩
    · exact parts_nil PC CC a0 cap w
    · exact parts_go PC CC b off len cap w (by omega) hb hc
end Sh
end Go.Proofs.Ytpbidcjfnkmddaa
