/-
  Proved (P22.1): for every side, part (its three lists of any numbers, in any order) and sea, of any bits and lengths: Local answers the document's sea and error; of no net ErrNil; what is handed in stays. Conditions: none. The table of the faces starts as the program lays it (tied).
-/
import Derived.Test.YtilfdnipahabbaaGreatDoorRows
import Derived.Test.YtilfdnipahabbaaGreatDoorTie
import Derived.Test.YtilfdnipahabbaaGreatDoorCards
import Derived.SevenTiedAt
import Derived.SizedLaws
import Derived.Test.YtilfdnipahabbaaGreatDoorUd15
namespace Go.Proofs.YtilfdnipahabbaaGreatDoor.splitLocalDone
open Go.ChangeShapes Go.WideShapes Go.ChangeAt Go.WideMaps Go.WideElems Go.RowKit Cu
theorem laidOut : laidOutB Tryz.prog = true := by kernel_rfl
set_option maxRecDepth 100000 in
theorem lifted (os : Os) (started : os.Started) (H : Type) (enc : TypeId × Value → H) :
    ReturnsInHanded {} Tryz.checked os 3 .any (fun w args => (Rows.splitLocalSpec.pre enc Tryz.prog Tryz.f3 [] false w args ∧ laidMetH Tryz.prog [("tarn/cube.frames", Rows.laid_tarn_cube_frames)] w) ∧ sizedMet enc Tryz.prog Tryz.f3 (OpenSpec.ofChange Rows.splitLocalSpec) false w args)
      (Rows.splitLocalSpec.post enc Tryz.prog Tryz.f3 false true false false) := by
  refine returnsInHanded_of_change_and (C := Tryz.checked) (X := fun w _ => laidMetH Tryz.prog [("tarn/cube.frames", Rows.laid_tarn_cube_frames)] w) (fun _ _ _ hh h => h.of_heap hh) own started (by kernel_rfl) Tryz.func3
    (ChangeSpec.witness_shaped (enc := enc) (C := Tryz.checked) (os := os) (X := fun w _ => laidMetH Tryz.prog [("tarn/cube.frames", Rows.laid_tarn_cube_frames)] w) false (World.doorLaid Tryz.prog 400 os) #[.int .i64 0, .slice none 0 0, .slice none 0 0, .slice none 0 0, .agg #[.slice none 0 0, .slice none 0 0, .slice none 0 0, .slice none 0 0, .int .i64 0, .int .i64 0]] 8 rfl (World.shaped_of_RefB (by kernel_rfl) (by kernel_rfl)) (by kernel_rfl) (by kernel_rfl) (by kernel_rfl) (door_met os _)) ?_
  intro W base args ds gs before hval0 hW _ hsz0 hL _
  have hsz : (DataW.weightsEach Tryz.checked.prog (Tryz.f3.params.toList ++ Rows.splitLocalSpec.plain.varTypes Tryz.checked.prog) (ds ++ gs)).all (· ≤ reachBytes) = true := hsz0
  have hval : ∀ (j : Nat) t v, Tryz.f3.params[j]? = some t → args[j]? = some v → Value.okWide Tryz.prog W .any base t v := hval0
  have hW' := hW
  obtain ⟨p, q, hA0, hV, rfl, hfz, hnd⟩ := hW
  have hA : DataW.TrodAll enc Tryz.prog W 0 (fun _ => true) true Tryz.f3.params.toList args.toList ds p := hA0
  rw [Tryz.params3] at hA hval hsz
  obtain ⟨v0, vs0, d0, ds0, p0, q0, hargs, rfl, rfl, h0, r0⟩ := trodAll_cons hA
  obtain ⟨v1, vs1, d1, ds1, p1, q1, rfl, rfl, rfl, h1, r1⟩ := trodAll_cons r0
  obtain ⟨v2, vs2, d2, ds2, p2, q2, rfl, rfl, rfl, h2, r2⟩ := trodAll_cons r1
  obtain ⟨v3, vs3, d3, ds3, p3, q3, rfl, rfl, rfl, h3, r3⟩ := trodAll_cons r2
  obtain ⟨v4, vs4, d4, ds4, p4, q4, rfl, rfl, rfl, h4, r4⟩ := trodAll_cons r3
  obtain ⟨rfl, rfl, rfl⟩ := trodAll_nil r4
  obtain rfl : args = #[v0, v1, v2, v3, v4] := by cases args; simp_all
  obtain ⟨rfl, rfl⟩ := trodVars_none hV
  obtain ⟨a0, rfl, rfl, rfl, w0⟩ := open_int Tryz.underlying3 (hval 0 3 v0 rfl rfl) h0
  have k1 := h1
  have lt1 : ∀ x ∈ p1, x.block < W.heap.size := by obtain ⟨m, hm⟩ := k1; exact DataW.trod_lt m _ _ _ hm
  obtain ⟨a1, len1, cap1, rfl⟩ := okWide_slice Tryz.underlying22 (hval 1 22 v1 rfl rfl)
  obtain ⟨xs1, I1, Z1⟩ : ∃ xs, Sh.IsI W a1 len1 xs ∧ len1 ≤ 281474976710656 := by
    obtain ⟨fuel, hf⟩ := h1
    have hf2 : DataW.trod enc Tryz.prog W 0 (fun _ => true) true fuel 22 [.slice a1 len1 cap1] = some (d1, p1) := by simpa [Value.cells] using hf
    obtain ⟨b0, l0, c0, xs, e, hI, -⟩ := Spl.eV hf2
    simp at e
    obtain ⟨rfl, rfl, rfl⟩ := e
    exact ⟨xs, hI, Spl.bR Tryz.underlying22 (by kernel_rfl) hf2 (fun elems spare e => by have q : (elems.length + spare.length) * Tryz.prog.bytesOf 3 ≤ reachBytes := sized_slice hsz (j := 1) (t := 22) (e := 3) (elems := elems) (spare := spare) rfl (by rw [← e]; rfl) Tryz.underlying22; rw [Spl.kG] at q; exact q)⟩
  have k2 := h2
  have lt2 : ∀ x ∈ p2, x.block < W.heap.size := by obtain ⟨m, hm⟩ := k2; exact DataW.trod_lt m _ _ _ hm
  obtain ⟨a2, len2, cap2, rfl⟩ := okWide_slice Tryz.underlying22 (hval 2 22 v2 rfl rfl)
  obtain ⟨xs2, I2, Z2⟩ : ∃ xs, Sh.IsI W a2 len2 xs ∧ len2 ≤ 281474976710656 := by
    obtain ⟨fuel, hf⟩ := h2
    have hf2 : DataW.trod enc Tryz.prog W 0 (fun _ => true) true fuel 22 [.slice a2 len2 cap2] = some (d2, p2) := by simpa [Value.cells] using hf
    obtain ⟨b0, l0, c0, xs, e, hI, -⟩ := Spl.eV hf2
    simp at e
    obtain ⟨rfl, rfl, rfl⟩ := e
    exact ⟨xs, hI, Spl.bR Tryz.underlying22 (by kernel_rfl) hf2 (fun elems spare e => by have q : (elems.length + spare.length) * Tryz.prog.bytesOf 3 ≤ reachBytes := sized_slice hsz (j := 2) (t := 22) (e := 3) (elems := elems) (spare := spare) rfl (by rw [← e]; rfl) Tryz.underlying22; rw [Spl.kG] at q; exact q)⟩
  have k3 := h3
  have lt3 : ∀ x ∈ p3, x.block < W.heap.size := by obtain ⟨m, hm⟩ := k3; exact DataW.trod_lt m _ _ _ hm
  obtain ⟨a3, len3, cap3, rfl⟩ := okWide_slice Tryz.underlying22 (hval 3 22 v3 rfl rfl)
  obtain ⟨xs3, I3, Z3⟩ : ∃ xs, Sh.IsI W a3 len3 xs ∧ len3 ≤ 281474976710656 := by
    obtain ⟨fuel, hf⟩ := h3
    have hf2 : DataW.trod enc Tryz.prog W 0 (fun _ => true) true fuel 22 [.slice a3 len3 cap3] = some (d3, p3) := by simpa [Value.cells] using hf
    obtain ⟨b0, l0, c0, xs, e, hI, -⟩ := Spl.eV hf2
    simp at e
    obtain ⟨rfl, rfl, rfl⟩ := e
    exact ⟨xs, hI, Spl.bR Tryz.underlying22 (by kernel_rfl) hf2 (fun elems spare e => by have q : (elems.length + spare.length) * Tryz.prog.bytesOf 3 ≤ reachBytes := sized_slice hsz (j := 3) (t := 22) (e := 3) (elems := elems) (spare := spare) rfl (by rw [← e]; rfl) Tryz.underlying22; rw [Spl.kG] at q; exact q)⟩
  have k4 := h4
  have lt4 : ∀ x ∈ p4, x.block < W.heap.size := by obtain ⟨m, hm⟩ := k4; exact DataW.trod_lt m _ _ _ hm
  obtain ⟨pb, lb, cb, B, pw, lw, cw, Wt, pt, lt, ct, Tr, ps, ls, cs, Sp, sky, st, rfl, ⟨i1, i2, i3, i4⟩, hl, hsky, hst⟩ := Spl.qX (hval 4 26 v4 rfl rfl) h4 (fun parts e => Spl.pM hsz (j := 4) (t := 26) rfl (by rw [← e]; rfl) Tryz.underlying26)
  have hFr := of_laid hL
  clear hA0 hval0 hsz0 hsz
  refine (Spl.pK Spl.splitC Spl.localC Spl.localN a0 a1 len1 cap1 xs1 a2 len2 cap2 xs2 a3 len3 cap3 xs3 pb lb cb B pw lw cw Wt pt lt ct Tr ps ls cs Sp sky st W hFr ⟨hsky, hst⟩ ⟨Z1, Z2, Z3⟩ hl I1 I2 I3 i1 i2 i3 i4).mono fun e W' ⟨he, bel⟩ => ?_
  subst he
  exact ⟨_, rfl, _, _, _, [], _, [], hW', trodAll_mk1 (shut_bool Tryz.underlying4 _), (trodAll_cons_mk (shut_int Tryz.underlying3 w0) (trodAll_cons_mk (Below.trod laidOut (by kernel_rfl) (of_decide_eq_true (by kernel_rfl)) k1 bel lt1) (trodAll_cons_mk (Below.trod laidOut (by kernel_rfl) (of_decide_eq_true (by kernel_rfl)) k2 bel lt2) (trodAll_cons_mk (Below.trod laidOut (by kernel_rfl) (of_decide_eq_true (by kernel_rfl)) k3 bel lt3) (trodAll_cons_mk (Below.trod laidOut (by kernel_rfl) (of_decide_eq_true (by kernel_rfl)) k4 bel lt4) trodAll_mk0))))), rfl, bel.frame _, fun h => by cases h⟩
theorem over : Rows.splitLocalRow.holds Tryz.pinned (OpenSpec.ofChange Rows.splitLocalSpec) :=
  OpenClaim.holds_of_wide 3 Tryz.f3 rfl rfl rfl rfl rfl rfl rfl ⟨rfl, rfl, rfl, rfl, rfl⟩ rfl rfl rfl rfl rfl (by kernel_rfl) Tryz.func3 (by kernel_rfl)
    (of_decide_eq_true (by kernel_rfl)) (by unfold Func.isWrapper; first | (rw [if_pos (by decide +kernel)]; kernel_rfl) | (rw [if_neg (by decide +kernel)]; exact ⟨rfl, rfl⟩))
    (fun os started H enc _ => lifted os started H enc)
end Go.Proofs.YtilfdnipahabbaaGreatDoor.splitLocalDone
namespace Go.Proofs.YtilfdnipahabbaaGreatDoor
theorem splitLocal_holds : Rows.SplitLocalCardSaid :=
  Claim7.holds_tied_plain_at .later [] [.wider] true _ false
    splitLocalDone.over (fun _ h => by cases h) (by kernel_rfl) (fun _ h => by cases h) splitLocal_row_tie rfl ⟨rfl, rfl⟩ (by kernel_rfl) rfl
    (fun f fn hf hfn => by
      obtain rfl : f = 3 := Option.some.inj ((show Tryz.prog.funcNamed "tarn/tarnlaw22.SplitLocal" = some 3 by kernel_rfl).symm.trans hf) |>.symm
      obtain rfl : fn = Tryz.f3 := (Option.some.inj (Tryz.func3.symm.trans hfn)).symm
      exact ⟨by kernel_rfl, fun j t ht => by
        rw [Tryz.params3] at ht
        have h3 : t = 3 ∨ t = 22 ∨ t = 26 := by
          rcases j with _ | _ | _ | _ | _ | j
          · simp at ht; simp [ht]
          · simp at ht; simp [ht]
          · simp at ht; simp [ht]
          · simp at ht; simp [ht]
          · simp at ht; simp [ht]
          · simp at ht
        rcases h3 with rfl | rfl | rfl
        · exact (show Tryz.prog.wantsStandIn 3 = false by kernel_rfl)
        · exact (show Tryz.prog.wantsStandIn 22 = false by kernel_rfl)
        · exact (show Tryz.prog.wantsStandIn 26 = false by kernel_rfl)
        ⟩)
    (by kernel_rfl)
#print axioms splitLocal_holds
end Go.Proofs.YtilfdnipahabbaaGreatDoor
