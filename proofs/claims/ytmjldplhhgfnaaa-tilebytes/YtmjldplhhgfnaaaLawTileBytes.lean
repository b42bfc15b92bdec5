/-
  Proved: for every tile, of any cells, and all bytes: Encode answers as the reference does, the bytes and the error, and Decode answers as the reference does, the tile and the error; what is handed in stays. Conditions: none.
-/
import Derived.Test.YtmjldplhhgfnaaaRows
import Derived.Test.YtmjldplhhgfnaaaKe11
namespace Go.Proofs.Ytmjldplhhgfnaaa.tileBytesDone
open Go.ChangeShapes Go.WideShapes Go.ChangeAt Go.WideMaps Go.WideElems Go.RowKit
theorem own : ownKnob Try.prog.godebug = none := by kernel_rfl
theorem laidOut : laidOutB Try.prog = true := by kernel_rfl
set_option maxRecDepth 100000 in
theorem lifted (os : Os) (started : os.Started) (H : Type) (enc : TypeId × Value → H) :
    ReturnsInHanded {} Try.checked os 3 .any (Rows.tileBytesSpec.pre6 enc Try.prog Try.f3 Rows.tileBytesRow.domain false) (Rows.tileBytesSpec.post enc Try.prog Try.f3 false true false false) := by
  refine returnsInHanded_of_change_sized (C := Try.checked) own started (by kernel_rfl) Try.func3
    (ChangeSpec.witness6 (enc := enc) (C := Try.checked) false ⟨#[], #[.agg #[.int .i64 0, .int .u32 0, .int .u32 0, .slice none 0 0], .slice none 0 0], []⟩ 8 (by kernel_rfl) (by kernel_rfl) (by kernel_rfl) (by kernel_rfl)) ?_
  intro W base args ds gs before hval0 hW hcnd hsz0 _
  have hsz : (DataW.weightsEach Try.checked.prog (Try.f3.params.toList ++ Rows.tileBytesSpec.plain.varTypes Try.checked.prog) (ds ++ gs)).all (· ≤ reachBytes) = true := hsz0
  have hval : ∀ (j : Nat) t v, Try.f3.params[j]? = some t → args[j]? = some v → Value.okWide Try.prog W .any base t v := hval0
  have hW' := hW
  obtain ⟨p, q, hA0, hV, rfl, hfz, hnd⟩ := hW
  have hA : DataW.TrodAll enc Try.prog W 0 (fun _ => true) true Try.f3.params.toList args.toList ds p := hA0
  rw [Try.params3] at hA hval hsz
  obtain ⟨v0, vs0, d0, ds0, p0, q0, hargs, rfl, rfl, h0, r0⟩ := trodAll_cons hA
  obtain ⟨v1, vs1, d1, ds1, p1, q1, rfl, rfl, rfl, h1, r1⟩ := trodAll_cons r0
  obtain ⟨rfl, rfl, rfl⟩ := trodAll_nil r1
  obtain rfl : args = #[v0, v1] := by cases args; simp_all
  obtain ⟨rfl, rfl⟩ := trodVars_none hV
  have k0 := h0
  have lt0 : ∀ x ∈ p0, x.block < W.heap.size := by obtain ⟨m, hm⟩ := k0; exact DataW.trod_lt m _ _ _ hm
  obtain ⟨fa, ls, ms, pt, mt, ct, F, rfl, hfa, hls, hms, hF, hmt, hct⟩ := Ti.qD (hval 0 25 v0 rfl rfl) h0 (fun parts e => Ti.qE hsz (j := 0) (t := 25) rfl (by rw [← e]; rfl) Try.underlying25)
  have k1 := h1
  have lt1 : ∀ x ∈ p1, x.block < W.heap.size := by obtain ⟨m, hm⟩ := k1; exact DataW.trod_lt m _ _ _ hm
  obtain ⟨a1, len1, cap1, rfl⟩ := okWide_slice Try.underlying26 (hval 1 26 v1 rfl rfl)
  obtain ⟨xs1, I1, J1⟩ : ∃ xs, Ti.IsW .u8 256 W a1 len1 xs ∧ len1 ≤ cap1 ∧ cap1 ≤ 140737488355328 := by
    obtain ⟨fuel, hf⟩ := h1
    obtain ⟨b0, l0, c0, xs, e, hI, h1, h2, -⟩ := Ti.nK (by simpa [Value.cells] using hf) (fun elems spare e => by have q := sized_slice hsz (j := 1) (t := 26) (e := 5) (elems := elems) (spare := spare) rfl (by rw [← e]; rfl) Try.underlying26; have b8 : Try.checked.prog.bytesOf 5 = 1 := Ti.bytes8; rw [b8] at q; exact q)
    simp at e
    obtain ⟨rfl, rfl, rfl⟩ := e
    exact ⟨xs, hI, h1, h2⟩
  clear hA0 hval0 hsz0 hsz
  refine (Ti.qC fa ls ms pt mt ct F a1 len1 cap1 xs1 W hls hms ⟨hmt, hct⟩ hF J1 I1).mono fun e W' ⟨he, bel⟩ => ?_
  subst he
  exact ⟨_, rfl, _, _, _, [], _, [], hW', trodAll_mk1 (shut_bool Try.underlying4 _), (trodAll_cons_mk (Below.trod laidOut (by kernel_rfl) (of_decide_eq_true (by kernel_rfl)) k0 bel lt0) (trodAll_cons_mk (Below.trod laidOut (by kernel_rfl) (of_decide_eq_true (by kernel_rfl)) k1 bel lt1) trodAll_mk0)), rfl, bel.frame _, fun h => by cases h⟩
theorem over : Rows.tileBytesRow.holds Try.pinned (OpenSpec.ofChange Rows.tileBytesSpec) :=
  OpenClaim.holds_of_wide 3 Try.f3 rfl rfl rfl rfl rfl rfl rfl ⟨rfl, rfl, rfl, rfl, rfl⟩ rfl rfl rfl rfl rfl (by kernel_rfl) Try.func3 (by kernel_rfl)
    (of_decide_eq_true (by kernel_rfl)) (by unfold Func.isWrapper; first | (rw [if_pos (by decide +kernel)]; kernel_rfl) | (rw [if_neg (by decide +kernel)]; exact ⟨rfl, rfl⟩))
    (fun os started H enc _ => lifted os started H enc)
end Go.Proofs.Ytmjldplhhgfnaaa.tileBytesDone
namespace Go.Proofs.Ytmjldplhhgfnaaa
theorem tileBytes_holds : Rows.TileBytesSaid := tileBytesDone.over
#print axioms tileBytes_holds
end Go.Proofs.Ytmjldplhhgfnaaa
