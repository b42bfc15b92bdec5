/-
  Some of the texts of this proof, one behind the other.
-/
import Derived.Test.YtpfoohpncbkkfaaDoorZ14
namespace Go.Proofs.YtpfoohpncbkkfaaDoor
open Go.ChangeShapes Go.WideShapes Go.ChangeAt Go.WideMaps Go.WideElems Go.RowKit Go.Deep
namespace Fc
set_option maxRecDepth 100000 in
theorem plan_open16 {H : Type} {enc : TypeId × Value → H} {W : World} {r : Reach} {b0 : Nat} {v : Value} {d : DataW H} {p : List MemPlace} (hv : Value.okWide Tryd.prog W r b0 25 v) (h : DataW.Trod enc Tryd.prog W 0 (fun _ => true) true 25 v d p) :
    ∃ sd dt gr dr lim rv pr lr cr, v = .agg #[.int .i64 sd, .float .f64 dt, .float .f64 gr, .float .f64 dr, .int .i64 lim, .bool rv, .slice pr lr cr] ∧ (dt < 18446744073709551616 ∧ gr < 18446744073709551616 ∧ dr < 18446744073709551616) := by
  have hC : Tryd.prog.cellsOf 25 = 7 := by kernel_rfl
  obtain ⟨cs, rfl, hsz⟩ := okWide_struct Tryd.underlying25 hv
  obtain ⟨v0, v1, v2, v3, v4, v5, v6, rfl⟩ := array7' (hsz.trans hC)
  obtain ⟨fuel, hf⟩ := h
  have hf' : DataW.trod enc Tryd.prog W 0 (fun _ => true) true fuel 25 [v0, v1, v2, v3, v4, v5, v6] = some (d, p) := by simpa [Value.cells] using hf
  have k0 : Tryd.prog.cellsOf 22 = 1 := by kernel_rfl
  have k1 : Tryd.prog.cellsOf 4 = 1 := by kernel_rfl
  have k2 : Tryd.prog.cellsOf 23 = 1 := by kernel_rfl
  have k3 : Tryd.prog.cellsOf 3 = 1 := by kernel_rfl
  obtain ⟨xs, m, _, hx, hlen, hn, hel⟩ := DataW.trod_struct Tryd.underlying25 hf'
  match xs, hn with
  | [x0, x1, x2, x3, x4, x5, x6], _ =>
    have h0 := hel 0 _ rfl
    have h1 := hel 1 _ rfl
    have h2 := hel 2 _ rfl
    have h3 := hel 3 _ rfl
    have h4 := hel 4 _ rfl
    have h5 := hel 5 _ rfl
    have h6 := hel 6 _ rfl
    simp [k0, k1, k2, k3] at h0 h1 h2 h3 h4 h5 h6
    obtain ⟨sd, rfl, i0⟩ := trod_int12 Tryd.underlying3 h0
    obtain ⟨dt, rfl, i1⟩ := trod_flt12 Tryd.underlying22 h1
    obtain ⟨gr, rfl, i2⟩ := trod_flt12 Tryd.underlying22 h2
    obtain ⟨dr, rfl, i3⟩ := trod_flt12 Tryd.underlying22 h3
    obtain ⟨lim, rfl, i4⟩ := trod_int12 Tryd.underlying3 h4
    obtain ⟨rv, rfl⟩ := trod_bool13 Tryd.underlying4 h5
    rcases open_slice Tryd.underlying23 h6 with ⟨hcs, _⟩ | ⟨a, l, c, _, _, _, _, hcs, _⟩
    · simp at hcs
      subst hcs
      exact ⟨_, _, _, _, _, _, _, _, _, rfl, i1, i2, i3⟩
    · simp at hcs
      subst hcs
      exact ⟨_, _, _, _, _, _, _, _, _, rfl, i1, i2, i3⟩
end Fc
end Go.Proofs.YtpfoohpncbkkfaaDoor
