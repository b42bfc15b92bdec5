/-
  Some of the texts of this proof, one behind the other.
-/
import Derived.ProofKit
import Derived.OpenShut
import Derived.WalkLawsBesides
import Derived.Stop.Joined
import Derived.Carry
import Derived.Lib.SmallJoins
import Derived.Test.YtbdjbhdbegiipaaDoorS14
namespace Go.Proofs.YtbdjbhdbegiipaaDoor.F13
open Go.ChangeShapes Go.WideShapes Go.ChangeAt Go.WideMaps Go.WideElems Go.RowKit
theorem trod_float {H : Type} {enc : TypeId × Value → H} {P : Program} {w : World} {base : Nat} {spare : Nat → Bool} {held : Bool} {t : TypeId} {fuel : Nat} {v : Value} {x : DataW H × List MemPlace} (ht : P.underlying t = some (.float .f64)) (h : DataW.trod enc P w base spare held fuel t [v] = some x) :
    ∃ b, v = .float .f64 b ∧ (Lit.float .f64 b).wf = true := by
  cases fuel with
  | zero => simp [DataW.trod] at h
  | succ n =>
    unfold DataW.trod at h
    rw [ht] at h
    split at h <;> simp_all
theorem flt_cell {H : Type} {enc : TypeId × Value → H} {w : World} {base n : Nat} {spare : Nat → Bool} {held : Bool} {v : Value} {x : DataW H × List MemPlace} (h : DataW.trod enc Tryd.prog w base spare held n 22 [v] = some x) : ∃ a, v = .float .f64 a ∧ a < 18446744073709551616 := by
  obtain ⟨k, e, wf⟩ := trod_float Tryd.underlying22 h
  exact ⟨k, e, by simpa [Lit.wf] using wf⟩
set_option maxRecDepth 100000 in
theorem four_cells {H : Type} {enc : TypeId × Value → H} {w : World} {base n : Nat} {spare : Nat → Bool} {held : Bool} {v0 v1 v2 v3 : Value} {x : DataW H × List MemPlace} (h : DataW.trod enc Tryd.prog w base spare held n 24 [v0, v1, v2, v3] = some x) :
    ∃ a0 a1 a2 a3, (v0 = .float .f64 a0 ∧ v1 = .float .f64 a1 ∧ v2 = .float .f64 a2 ∧ v3 = .float .f64 a3) ∧ a0 < 18446744073709551616 ∧ a1 < 18446744073709551616 ∧ a2 < 18446744073709551616 ∧ a3 < 18446744073709551616 := by
  have k3 : Tryd.prog.cellsOf 22 = 1 := by kernel_rfl
  obtain ⟨xs, m, _, hx, hlen, hn, hel⟩ := DataW.trod_struct Tryd.underlying24 h
  match xs, hn with
  | [x0, x1, x2, x3], _ =>
    have h0 := hel 0 _ rfl
    have h1 := hel 1 _ rfl
    have h2 := hel 2 _ rfl
    have h3 := hel 3 _ rfl
    simp [k3] at h0 h1 h2 h3
    obtain ⟨a0, e0, i0⟩ := flt_cell h0
    obtain ⟨a1, e1, i1⟩ := flt_cell h1
    obtain ⟨a2, e2, i2⟩ := flt_cell h2
    obtain ⟨a3, e3, i3⟩ := flt_cell h3
    exact ⟨a0, a1, a2, a3, ⟨e0, e1, e2, e3⟩, i0, i1, i2, i3⟩
end Go.Proofs.YtbdjbhdbegiipaaDoor.F13

namespace Go.Proofs.YtbdjbhdbegiipaaDoor
open Go.ChangeShapes Go.WideShapes Go.ChangeAt Go.WideMaps Go.WideElems Go.RowKit Go.Deep
theorem array4' {c : Array Value} (h : c.size = 4) : ∃ v0 v1 v2 v3, c = #[v0, v1, v2, v3] := by
  rcases c with ⟨l⟩
  match l, h with
  | [v0, v1, v2, v3], _ => exact ⟨v0, v1, v2, v3, rfl⟩
set_option maxRecDepth 100000 in
theorem four_open {H : Type} {enc : TypeId × Value → H} {W : World} {r : Reach} {b0 : Nat} {v : Value} {d : DataW H} {p : List MemPlace} (hv : Value.okWide Tryd.prog W r b0 24 v) (h : DataW.Trod enc Tryd.prog W 0 (fun _ => true) true 24 v d p) :
    ∃ a0 a1 a2 a3, v = .agg #[.float .f64 a0, .float .f64 a1, .float .f64 a2, .float .f64 a3] ∧ a0 < 18446744073709551616 ∧ a1 < 18446744073709551616 ∧ a2 < 18446744073709551616 ∧ a3 < 18446744073709551616 := by
  have hC : Tryd.prog.cellsOf 24 = 4 := by kernel_rfl
  obtain ⟨cs, rfl, hsz⟩ := okWide_struct Tryd.underlying24 hv
  obtain ⟨v0, v1, v2, v3, rfl⟩ := array4' (hsz.trans hC)
  obtain ⟨fuel, hf⟩ := h
  have hf' : DataW.trod enc Tryd.prog W 0 (fun _ => true) true fuel 24 [v0, v1, v2, v3] = some (d, p) := by simpa [Value.cells] using hf
  obtain ⟨a0, a1, a2, a3, ⟨rfl, rfl, rfl, rfl⟩, hs⟩ := F13.four_cells hf'
  exact ⟨a0, a1, a2, a3, rfl, hs⟩
end Go.Proofs.YtbdjbhdbegiipaaDoor
