/-
  Proved: for every side, every sea, of any bits and lengths, and every tile of up to 1024 cells, of any cells: two calls of Encode with the same list answer the same bytes, the list, with the room behind it, stays; Decode leaves the bytes and the room behind them, and writing into these and into the answered bytes changes no tile and no later answer; two calls of Tiles answer the same tiles, and writing into all cells of the first answer, and behind them, changes neither the second nor a third; what is handed in stays. Conditions: none.
-/
import Derived.Test.YtdeammhdedcjlaaRows
import Derived.Test.YtdeammhdedcjlaaKf12
namespace Go.Proofs.Ytdeammhdedcjlaa.tileMemoryDone
open Go.ChangeShapes Go.WideShapes Go.ChangeAt Go.WideMaps Go.WideElems Go.RowKit
theorem own : ownKnob Try.prog.godebug = none := by kernel_rfl
theorem laidOut : laidOutB Try.prog = true := by kernel_rfl
set_option maxRecDepth 100000 in
theorem lifted (os : Os) (started : os.Started) (H : Type) (enc : TypeId × Value → H) :
    ReturnsInHanded {} Try.checked os 7 .any (Rows.tileMemorySpec.pre6 enc Try.prog Try.f7 Rows.tileMemoryRow.domain false) (Rows.tileMemorySpec.post enc Try.prog Try.f7 false true false false) := by
  refine returnsInHanded_of_change_sized (C := Try.checked) own started (by kernel_rfl) Try.func7
    (ChangeSpec.witness6 (enc := enc) (C := Try.checked) false ⟨#[], #[.int .i64 0, .agg #[.slice none 0 0, .slice none 0 0, .slice none 0 0, .slice none 0 0, .int .i64 0, .int .i64 0], .agg #[.int .i64 0, .int .u32 0, .int .u32 0, .slice none 0 0]], []⟩ 8 (by kernel_rfl) (by kernel_rfl) (by kernel_rfl) (by kernel_rfl)) ?_
  intro W base args ds gs before hval0 hW hcnd hsz0 _
  have hsz : (DataW.weightsEach Try.checked.prog (Try.f7.params.toList ++ Rows.tileMemorySpec.plain.varTypes Try.checked.prog) (ds ++ gs)).all (· ≤ reachBytes) = true := hsz0
  have hval : ∀ (j : Nat) t v, Try.f7.params[j]? = some t → args[j]? = some v → Value.okWide Try.prog W .any base t v := hval0
  have hW' := hW
  obtain ⟨p, q, hA0, hV, rfl, hfz, hnd⟩ := hW
  have hA : DataW.TrodAll enc Try.prog W 0 (fun _ => true) true Try.f7.params.toList args.toList ds p := hA0
  rw [Try.params7] at hA hval hsz
  obtain ⟨v0, vs0, d0, ds0, p0, q0, hargs, rfl, rfl, h0, r0⟩ := trodAll_cons hA
  obtain ⟨v1, vs1, d1, ds1, p1, q1, rfl, rfl, rfl, h1, r1⟩ := trodAll_cons r0
  obtain ⟨v2, vs2, d2, ds2, p2, q2, rfl, rfl, rfl, h2, r2⟩ := trodAll_cons r1
  obtain ⟨rfl, rfl, rfl⟩ := trodAll_nil r2
  obtain rfl : args = #[v0, v1, v2] := by cases args; simp_all
  obtain ⟨rfl, rfl⟩ := trodVars_none hV
  obtain ⟨a0, rfl, rfl, rfl, w0⟩ := open_int Try.underlying3 (hval 0 3 v0 rfl rfl) h0
  have k1 := h1
  have lt1 : ∀ x ∈ p1, x.block < W.heap.size := by obtain ⟨m, hm⟩ := k1; exact DataW.trod_lt m _ _ _ hm
  obtain ⟨pb, lb, cb, B, pw, lw, cw, Wt, pr, lr, cr, Tr, ps, ls', cs, Sp, sky, st, rfl, ⟨i1, i2, i3, i4⟩, hl, hsky, hst⟩ := Ti.oC (hval 1 40 v1 rfl rfl) h1 (fun parts e => Ti.jM hsz (j := 1) (t := 40) rfl (by rw [← e]; rfl) Try.underlying40)
  have k2 := h2
  have lt2 : ∀ x ∈ p2, x.block < W.heap.size := by obtain ⟨m, hm⟩ := k2; exact DataW.trod_lt m _ _ _ hm
  obtain ⟨fa, ls, ms, pt, mt, ct, F, rfl, hfa, hls, hms, hF, hmt, hct⟩ := Ti.qW (hval 2 25 v2 rfl rfl) h2 (fun parts e => Ti.jM hsz (j := 2) (t := 25) rfl (by rw [← e]; rfl) Try.underlying25)
  clear hA0 hval0 hsz0 hsz
  refine (Ti.tmem_at a0 pb lb cb B pw lw cw Wt pr lr cr Tr ps ls' cs Sp sky st fa ls ms pt mt ct F W i1 i2 i3 i4 hls hms ⟨hmt, hct⟩ hF).mono fun e W' ⟨he, bel⟩ => ?_
  subst he
  exact ⟨_, rfl, _, _, _, [], _, [], hW', trodAll_mk1 (shut_bool Try.underlying4 _), (trodAll_cons_mk (shut_int Try.underlying3 w0) (trodAll_cons_mk (Below.trod laidOut (by kernel_rfl) (of_decide_eq_true (by kernel_rfl)) k1 bel lt1) (trodAll_cons_mk (Below.trod laidOut (by kernel_rfl) (of_decide_eq_true (by kernel_rfl)) k2 bel lt2) trodAll_mk0))), rfl, bel.frame _, fun h => by cases h⟩
theorem over : Rows.tileMemoryRow.holds Try.pinned (OpenSpec.ofChange Rows.tileMemorySpec) :=
  OpenClaim.holds_of_wide 7 Try.f7 rfl rfl rfl rfl rfl rfl rfl ⟨rfl, rfl, rfl, rfl, rfl⟩ rfl rfl rfl rfl rfl (by kernel_rfl) Try.func7 (by kernel_rfl)
    (of_decide_eq_true (by kernel_rfl)) (by unfold Func.isWrapper; first | (rw [if_pos (by decide +kernel)]; kernel_rfl) | (rw [if_neg (by decide +kernel)]; exact ⟨rfl, rfl⟩))
    (fun os started H enc _ => lifted os started H enc)
end Go.Proofs.Ytdeammhdedcjlaa.tileMemoryDone
namespace Go.Proofs.Ytdeammhdedcjlaa
theorem tileMemory_holds : Rows.TileMemorySaid := tileMemoryDone.over
#print axioms tileMemory_holds
end Go.Proofs.Ytdeammhdedcjlaa
