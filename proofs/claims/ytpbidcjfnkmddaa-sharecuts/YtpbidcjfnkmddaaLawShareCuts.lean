/-
  Proved: for every water and every list of outs, of any length: Cut is the document's list, with the document's error; what is cut is from 0 to what it was, together at most the water, and, if it had to be cut, more than the water less the number of outs; what is handed in stays. Conditions: none (lists of more than 65536 outs are not looked at, by the statement).
-/
import Derived.Test.YtpbidcjfnkmddaaRows
import Derived.Test.YtpbidcjfnkmddaaUl
import Derived.Test.YtpbidcjfnkmddaaUn
import Derived.Test.YtpbidcjfnkmddaaYn
import Derived.Test.YtpbidcjfnkmddaaUm
namespace Go.Proofs.Ytpbidcjfnkmddaa.shareCutsDone
open Go.ChangeShapes Go.WideShapes Go.ChangeAt Go.WideMaps Go.WideElems Go.RowKit
theorem own : ownKnob Try.prog.godebug = none := by kernel_rfl
theorem laidOut : laidOutB Try.prog = true := by kernel_rfl
set_option maxRecDepth 100000 in
theorem lifted (os : Os) (started : os.Started) (H : Type) (enc : TypeId × Value → H) :
    ReturnsInHanded {} Try.checked os 5 .any (Rows.shareCutsSpec.pre6 enc Try.prog Try.f5 Rows.shareCutsRow.domain false) (Rows.shareCutsSpec.post enc Try.prog Try.f5 false true false false) := by
  refine returnsInHanded_of_change (C := Try.checked) own started (by kernel_rfl) Try.func5
    (ChangeSpec.witness6 (enc := enc) (C := Try.checked) false ⟨#[], #[.int .i64 0, .slice none 0 0], []⟩ 8 (by kernel_rfl) (by kernel_rfl) (by kernel_rfl) (by kernel_rfl)) ?_
  intro W base args ds gs before hval0 hW hcnd _
  have hval : ∀ (j : Nat) t v, Try.f5.params[j]? = some t → args[j]? = some v → Value.okWide Try.prog W .any base t v := hval0
  have hW' := hW
  obtain ⟨p, q, hA0, hV, rfl, hfz, hnd⟩ := hW
  have hA : DataW.TrodAll enc Try.prog W 0 (fun _ => true) true Try.f5.params.toList args.toList ds p := hA0
  rw [Try.params5] at hA hval
  obtain ⟨v0, vs0, d0, ds0, p0, q0, hargs, rfl, rfl, h0, r0⟩ := trodAll_cons hA
  obtain ⟨v1, vs1, d1, ds1, p1, q1, rfl, rfl, rfl, h1, r1⟩ := trodAll_cons r0
  obtain ⟨rfl, rfl, rfl⟩ := trodAll_nil r1
  obtain rfl : args = #[v0, v1] := by cases args; simp_all
  obtain ⟨rfl, rfl⟩ := trodVars_none hV
  obtain ⟨a0, rfl, rfl, rfl, w0⟩ := open_int Try.underlying2 (hval 0 2 v0 rfl rfl) h0
  have k1 := h1
  have lt1 : ∀ x ∈ p1, x.block < W.heap.size := by obtain ⟨m, hm⟩ := k1; exact DataW.trod_lt m _ _ _ hm
  obtain ⟨a1, len1, cap1, rfl⟩ := okWide_slice Try.underlying29 (hval 1 29 v1 rfl rfl)
  obtain ⟨xs1, I1⟩ : ∃ xs, Sh.IsI W a1 len1 xs := by
    obtain ⟨fuel, hf⟩ := h1
    obtain ⟨b0, l0, c0, xs, e, hI, -⟩ := Sh.list_open (by simpa [Value.cells] using hf)
    simp at e
    obtain ⟨rfl, rfl, rfl⟩ := e
    exact ⟨xs, hI⟩
  clear hA0 hval0
  refine (Sh.cuts_at Sh.partC Sh.cutC a0 a1 len1 cap1 xs1 W (by simpa [Lit.wf, Sh.W64] using Sh.lit_w w0) I1).mono fun e W' ⟨he, bel⟩ => ?_
  subst he
  exact ⟨_, rfl, _, _, _, [], _, [], hW', trodAll_mk1 (shut_bool Try.underlying4 _), (trodAll_cons_mk (shut_int Try.underlying2 w0) (trodAll_cons_mk (Below.trod laidOut (by kernel_rfl) (of_decide_eq_true (by kernel_rfl)) k1 bel lt1) trodAll_mk0)), rfl, bel.frame _, fun h => by cases h⟩
theorem over : Rows.shareCutsRow.holds Try.pinned (OpenSpec.ofChange Rows.shareCutsSpec) :=
  OpenClaim.holds_of_wide 5 Try.f5 rfl rfl rfl rfl rfl rfl rfl ⟨rfl, rfl, rfl, rfl, rfl⟩ rfl rfl rfl rfl rfl (by kernel_rfl) Try.func5 (by kernel_rfl)
    (of_decide_eq_true (by kernel_rfl)) (by unfold Func.isWrapper; first | (rw [if_pos (by decide +kernel)]; kernel_rfl) | (rw [if_neg (by decide +kernel)]; exact ⟨rfl, rfl⟩))
    (fun os started H enc _ => lifted os started H enc)
end Go.Proofs.Ytpbidcjfnkmddaa.shareCutsDone
namespace Go.Proofs.Ytpbidcjfnkmddaa
theorem shareCuts_holds : Rows.ShareCutsSaid := shareCutsDone.over
#print axioms shareCuts_holds
end Go.Proofs.Ytpbidcjfnkmddaa
