/-
  Vectors among the inputs of a statement: how they are read (no walk).
-/
import Derived.Test.YtgfggfkmfhonbaaMm
import Derived.Test.YtgfggfkmfhonbaaRows
import Derived.ProofKit
import Derived.OpenShut
import Derived.WalkLawsBesides
import Derived.Stop.Joined
import Derived.Carry
import Derived.Lib.SmallJoins
namespace Go.Proofs.Ytgfggfkmfhonbaa
open Go.ChangeShapes Go.WideShapes Go.ChangeAt Go.WideMaps Go.WideElems Go.RowKit
theorem own : ownKnob Try.prog.godebug = none := by kernel_rfl
theorem laidOut : laidOutB Try.prog = true := by kernel_rfl
theorem trod_float {H : Type} {enc : TypeId × Value → H} {P : Program} {w : World} {base : Nat} {spare : Nat → Bool} {held : Bool} {t : TypeId} {fuel : Nat} {v : Value} {x : DataW H × List MemPlace} (ht : P.underlying t = some (.float .f64)) (h : DataW.trod enc P w base spare held fuel t [v] = some x) :
    ∃ b, v = .float .f64 b ∧ (Lit.float .f64 b).wf = true := by
  cases fuel with
  | zero => simp [DataW.trod] at h
  | succ n =>
    unfold DataW.trod at h
    rw [ht] at h
    split at h <;> simp_all
theorem array3 {c : Array Value} (h : c.size = 3) : ∃ v0 v1 v2, c = #[v0, v1, v2] := by
  rcases c with ⟨l⟩
  match l, h with
  | [v0, v1, v2], _ => exact ⟨v0, v1, v2, rfl⟩
theorem flt_cell {H : Type} {enc : TypeId × Value → H} {w : World} {base n : Nat} {spare : Nat → Bool} {held : Bool} {v : Value} {x : DataW H × List MemPlace} (h : DataW.trod enc Try.prog w base spare held n 22 [v] = some x) : ∃ a, v = .float .f64 a ∧ a < 18446744073709551616 := by
  obtain ⟨k, e, wf⟩ := trod_float Try.underlying22 h
  exact ⟨k, e, by simpa [Lit.wf] using wf⟩
theorem vec_cells {H : Type} {enc : TypeId × Value → H} {w : World} {base n : Nat} {spare : Nat → Bool} {held : Bool} {v0 v1 v2 : Value} {x : DataW H × List MemPlace} (h : DataW.trod enc Try.prog w base spare held n 24 [v0, v1, v2] = some x) :
    ∃ a0 a1 a2, (v0 = .float .f64 a0 ∧ v1 = .float .f64 a1 ∧ v2 = .float .f64 a2) ∧ a0 < 18446744073709551616 ∧ a1 < 18446744073709551616 ∧ a2 < 18446744073709551616 := by
  have k3 : Try.prog.cellsOf 22 = 1 := by kernel_rfl
  obtain ⟨xs, m, _, hx, hlen, hn, hel⟩ := DataW.trod_struct Try.underlying24 h
  match xs, hn with
  | [x0, x1, x2], _ =>
    have h0 := hel 0 _ rfl
    have h1 := hel 1 _ rfl
    have h2 := hel 2 _ rfl
    simp [k3] at h0 h1 h2
    obtain ⟨a0, e0, i0⟩ := flt_cell h0
    obtain ⟨a1, e1, i1⟩ := flt_cell h1
    obtain ⟨a2, e2, i2⟩ := flt_cell h2
    exact ⟨a0, a1, a2, ⟨e0, e1, e2⟩, i0, i1, i2⟩
theorem vec_open {H : Type} {enc : TypeId × Value → H} {W : World} {r : Reach} {b0 base : Nat} {spare : Nat → Bool} {held : Bool} {v : Value} {d : DataW H} {p : List MemPlace} (hv : Value.okWide Try.prog W r b0 24 v) (h : DataW.Trod enc Try.prog W base spare held 24 v d p) :
    ∃ a0 a1 a2, v = .agg #[.float .f64 a0, .float .f64 a1, .float .f64 a2] ∧ a0 < 18446744073709551616 ∧ a1 < 18446744073709551616 ∧ a2 < 18446744073709551616 := by
  have hC : Try.prog.cellsOf 24 = 3 := by kernel_rfl
  obtain ⟨cs, rfl, hsz⟩ := okWide_struct Try.underlying24 hv
  obtain ⟨v0, v1, v2, rfl⟩ := array3 (hsz.trans hC)
  obtain ⟨fuel, hf⟩ := h
  obtain ⟨a0, a1, a2, ⟨rfl, rfl, rfl⟩, hi⟩ := vec_cells (by simpa [Value.cells] using hf)
  exact ⟨a0, a1, a2, rfl, hi⟩
end Go.Proofs.Ytgfggfkmfhonbaa
