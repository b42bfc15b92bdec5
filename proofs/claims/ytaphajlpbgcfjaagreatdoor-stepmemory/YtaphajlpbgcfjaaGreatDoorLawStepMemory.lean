/-
  Proved: seas and plans that are handed in stay, spare room too; what is answered is new memory (nets of up to side 8, by the statement). Seas and plans of any bits and lengths; what is handed in stays. Conditions: none. The table of the faces starts as the program lays it (tied).
-/
import Derived.Test.YtaphajlpbgcfjaaGreatDoorRows
import Derived.Test.YtaphajlpbgcfjaaGreatDoorTie
import Derived.Test.YtaphajlpbgcfjaaGreatDoorCards
import Derived.SevenTiedAt
import Derived.SizedLaws
import Derived.Test.YtaphajlpbgcfjaaGreatDoorMa27
namespace Go.Proofs.YtaphajlpbgcfjaaGreatDoor.stepMemoryDone
open Go.ChangeShapes Go.WideShapes Go.ChangeAt Go.WideMaps Go.WideElems Go.RowKit Cu
theorem laidOut : laidOutB Tryz.prog = true := by kernel_rfl
set_option maxRecDepth 100000 in
theorem lifted (os : Os) (started : os.Started) (H : Type) (enc : TypeId × Value → H) :
    ReturnsInHanded {} Tryz.checked os 8 .any (fun w args => (Rows.stepMemorySpec.pre enc Tryz.prog Tryz.f8 [] false w args ∧ laidMetH Tryz.prog [("tarn/cube.frames", Rows.laid_tarn_cube_frames)] w) ∧ sizedMet enc Tryz.prog Tryz.f8 (OpenSpec.ofChange Rows.stepMemorySpec) false w args)
      (Rows.stepMemorySpec.post enc Tryz.prog Tryz.f8 false true false false) := by
  refine returnsInHanded_of_change_and (C := Tryz.checked) (X := fun w _ => laidMetH Tryz.prog [("tarn/cube.frames", Rows.laid_tarn_cube_frames)] w) (fun _ _ _ hh h => h.of_heap hh) own started (by kernel_rfl) Tryz.func8
    (ChangeSpec.witness_shaped (enc := enc) (C := Tryz.checked) (os := os) (X := fun w _ => laidMetH Tryz.prog [("tarn/cube.frames", Rows.laid_tarn_cube_frames)] w) false (World.doorLaid Tryz.prog 400 os) #[.agg #[.int .i64 0, .float .f64 0, .float .f64 0, .float .f64 0, .int .i64 0, .bool false, .slice none 0 0], .agg #[.slice none 0 0, .slice none 0 0, .slice none 0 0, .slice none 0 0, .int .i64 0, .int .i64 0]] 8 rfl (World.shaped_of_RefB (by kernel_rfl) (by kernel_rfl)) (by kernel_rfl) (by kernel_rfl) (by kernel_rfl) (door_met os _)) ?_
  intro W base args ds gs before hval0 hW _ hsz0 hL _
  have hsz : (DataW.weightsEach Tryz.checked.prog (Tryz.f8.params.toList ++ Rows.stepMemorySpec.plain.varTypes Tryz.checked.prog) (ds ++ gs)).all (· ≤ reachBytes) = true := hsz0
  have hval : ∀ (j : Nat) t v, Tryz.f8.params[j]? = some t → args[j]? = some v → Value.okWide Tryz.prog W .any base t v := hval0
  have hW' := hW
  obtain ⟨p, q, hA0, hV, rfl, hfz, hnd⟩ := hW
  have hA : DataW.TrodAll enc Tryz.prog W 0 (fun _ => true) true Tryz.f8.params.toList args.toList ds p := hA0
  rw [Tryz.params8] at hA hval hsz
  obtain ⟨v0, vs0, d0, ds0, p0, q0, hargs, rfl, rfl, h0, r0⟩ := trodAll_cons hA
  obtain ⟨v1, vs1, d1, ds1, p1, q1, rfl, rfl, rfl, h1, r1⟩ := trodAll_cons r0
  obtain ⟨rfl, rfl, rfl⟩ := trodAll_nil r1
  obtain rfl : args = #[v0, v1] := by cases args; simp_all
  obtain ⟨rfl, rfl⟩ := trodVars_none hV
  have k0 := h0
  have lt0 : ∀ x ∈ p0, x.block < W.heap.size := by obtain ⟨m, hm⟩ := k0; exact DataW.trod_lt m _ _ _ hm
  obtain ⟨sd, dt, gr, dr, lim, rv, pr, lr, cr, R, rfl, hsd, hlim, h3, ir, hlr⟩ := St.AX (hval 0 25 v0 rfl rfl) h0 (fun parts e => Rn.vN hsz (j := 0) (t := 25) rfl (by rw [← e]; rfl) Tryz.underlying25)
  have k1 := h1
  have lt1 : ∀ x ∈ p1, x.block < W.heap.size := by obtain ⟨m, hm⟩ := k1; exact DataW.trod_lt m _ _ _ hm
  obtain ⟨pb, lb, cb, B, pw, lw, cw, Wt, pt, lt, ct, Tr, ps, ls, cs, Sp, sky, st, rfl, ⟨i1, i2, i3, i4⟩, hl, hsky, hst⟩ := St.Dr (hval 1 29 v1 rfl rfl) h1 (fun parts e => Rn.vN hsz (j := 1) (t := 29) rfl (by rw [← e]; rfl) Tryz.underlying29)
  have hFr := of_laid hL
  clear hA0 hval0 hsz0 hsz
  refine (St.xK St.oneC St.flowC St.planB St.checkB W hFr ⟨hsd, hlim, hsky, hst⟩ h3 (by omega) (by omega) ir i1 i2 i3 i4).mono fun e W' ⟨he, bel⟩ => ?_
  subst he
  exact ⟨_, rfl, _, _, _, [], _, [], hW', trodAll_mk1 (shut_bool Tryz.underlying4 _), (trodAll_cons_mk (Below.trod laidOut (by kernel_rfl) (of_decide_eq_true (by kernel_rfl)) k0 bel lt0) (trodAll_cons_mk (Below.trod laidOut (by kernel_rfl) (of_decide_eq_true (by kernel_rfl)) k1 bel lt1) trodAll_mk0)), rfl, bel.frame _, fun h => by cases h⟩
theorem over : Rows.stepMemoryRow.holds Tryz.pinned (OpenSpec.ofChange Rows.stepMemorySpec) :=
  OpenClaim.holds_of_wide 8 Tryz.f8 rfl rfl rfl rfl rfl rfl rfl ⟨rfl, rfl, rfl, rfl, rfl⟩ rfl rfl rfl rfl rfl (by kernel_rfl) Tryz.func8 (by kernel_rfl)
    (of_decide_eq_true (by kernel_rfl)) (by unfold Func.isWrapper; first | (rw [if_pos (by decide +kernel)]; kernel_rfl) | (rw [if_neg (by decide +kernel)]; exact ⟨rfl, rfl⟩))
    (fun os started H enc _ => lifted os started H enc)
end Go.Proofs.YtaphajlpbgcfjaaGreatDoor.stepMemoryDone
namespace Go.Proofs.YtaphajlpbgcfjaaGreatDoor
theorem stepMemory_holds : Rows.StepMemoryCardSaid :=
  Claim7.holds_tied_plain_at .later [] [.wider] true _ false
    stepMemoryDone.over (fun _ h => by cases h) (by kernel_rfl) (fun _ h => by cases h) stepMemory_row_tie rfl ⟨rfl, rfl⟩ (by kernel_rfl) rfl
    (fun f fn hf hfn => by
      obtain rfl : f = 8 := Option.some.inj ((show Tryz.prog.funcNamed "tarn/tarnlaw21.StepMemory" = some 8 by kernel_rfl).symm.trans hf) |>.symm
      obtain rfl : fn = Tryz.f8 := (Option.some.inj (Tryz.func8.symm.trans hfn)).symm
      exact ⟨by kernel_rfl, fun j t ht => by
        rw [Tryz.params8] at ht
        have h3 : t = 25 ∨ t = 29 := by
          rcases j with _ | _ | j
          · simp at ht; simp [ht]
          · simp at ht; simp [ht]
          · simp at ht
        rcases h3 with rfl | rfl
        · exact (show Tryz.prog.wantsStandIn 25 = false by kernel_rfl)
        · exact (show Tryz.prog.wantsStandIn 29 = false by kernel_rfl)
        ⟩)
    (by kernel_rfl)
#print axioms stepMemory_holds
end Go.Proofs.YtaphajlpbgcfjaaGreatDoor
