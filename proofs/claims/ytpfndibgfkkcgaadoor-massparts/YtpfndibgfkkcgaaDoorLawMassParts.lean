/-
  Proved: for every two lists of numbers and every number: the total of both rows is that of both totals, where these go, the order plays no part, a number and its opposite are nothing; what is handed in stays. Conditions: none. The table of the faces starts as the program lays it (tied).
-/
import Derived.Test.YtpfndibgfkkcgaaDoorRows
import Derived.Test.YtpfndibgfkkcgaaDoorTie
import Derived.Test.YtpfndibgfkkcgaaDoorCards
import Derived.SevenTiedAt
import Derived.SizedLaws
import Derived.Test.YtpfndibgfkkcgaaDoorZ08
namespace Go.Proofs.YtpfndibgfkkcgaaDoor.massPartsDone
open Go.ChangeShapes Go.WideShapes Go.ChangeAt Go.WideMaps Go.WideElems Go.RowKit Cu
theorem bytesI : Tryd.checked.prog.bytesOf 2 = 8 := by kernel_rfl
theorem list_size {H : Type} {enc : TypeId × Value → H} {W : World} {a0 : Option Addr} {len0 cap0 : Nat} {fuel : Nat} {x : DataW H × List MemPlace} {T E : TypeId} (hu : Tryd.prog.underlying T = some (.slice E)) (hc : Tryd.prog.cellsOf E = 1)
    (hf : DataW.trod enc Tryd.prog W 0 (fun _ => true) true fuel T [.slice a0 len0 cap0] = some x) (hs : ∀ elems spare, x.1 = .slice elems spare → (elems.length + spare.length) * 8 ≤ reachBytes) : len0 ≤ 17592186044416 := by
  rcases Go.Deep.open_slice1 hu hc hf with ⟨hcs, _⟩ | ⟨a, l, c, m, n, V, D, Pl, hcs, _, hl, hm, hmm, hx, _⟩
  · simp at hcs
    obtain ⟨rfl, rfl, rfl⟩ := hcs
    exact Nat.zero_le _
  · simp at hcs
    obtain ⟨rfl, rfl, rfl⟩ := hcs
    simp only [if_true] at hmm
    subst hmm
    have := hs _ _ (by rw [hx])
    simp only [List.length_map, List.length_range, reachBytes] at this
    omega
theorem laidOut : laidOutB Tryd.prog = true := by kernel_rfl
set_option maxRecDepth 100000 in
theorem lifted (os : Os) (started : os.Started) (H : Type) (enc : TypeId × Value → H) :
    ReturnsInHanded {} Tryd.checked os 7 .any (fun w args => (Rows.massPartsSpec.pre enc Tryd.prog Tryd.f7 [] false w args ∧ laidMetH Tryd.prog [("tarn/cube.frames", Rows.laid_tarn_cube_frames)] w) ∧ sizedMet enc Tryd.prog Tryd.f7 (OpenSpec.ofChange Rows.massPartsSpec) false w args)
      (Rows.massPartsSpec.post enc Tryd.prog Tryd.f7 false true false false) := by
  refine returnsInHanded_of_change_and (C := Tryd.checked) (X := fun w _ => laidMetH Tryd.prog [("tarn/cube.frames", Rows.laid_tarn_cube_frames)] w) (fun _ _ _ hh h => h.of_heap hh) own started (by kernel_rfl) Tryd.func7
    (ChangeSpec.witness_shaped (enc := enc) (C := Tryd.checked) (os := os) (X := fun w _ => laidMetH Tryd.prog [("tarn/cube.frames", Rows.laid_tarn_cube_frames)] w) false (World.doorLaid Tryd.prog 400 os) #[.slice none 0 0, .slice none 0 0, .int .i64 0] 8 rfl (World.shaped_of_RefB (by kernel_rfl) (by kernel_rfl)) (by kernel_rfl) (by kernel_rfl) (by kernel_rfl) (door_met os _)) ?_
  intro W base args ds gs before hval0 hW _ hsz0 hL _
  have hsz : (DataW.weightsEach Tryd.checked.prog (Tryd.f7.params.toList ++ Rows.massPartsSpec.plain.varTypes Tryd.checked.prog) (ds ++ gs)).all (· ≤ reachBytes) = true := hsz0
  have hval : ∀ (j : Nat) t v, Tryd.f7.params[j]? = some t → args[j]? = some v → Value.okWide Tryd.prog W .any base t v := hval0
  have hW' := hW
  obtain ⟨p, q, hA0, hV, rfl, hfz, hnd⟩ := hW
  have hA : DataW.TrodAll enc Tryd.prog W 0 (fun _ => true) true Tryd.f7.params.toList args.toList ds p := hA0
  rw [Tryd.params7] at hA hval hsz
  obtain ⟨v0, vs0, d0, ds0, p0, q0, hargs, rfl, rfl, h0, r0⟩ := trodAll_cons hA
  obtain ⟨v1, vs1, d1, ds1, p1, q1, rfl, rfl, rfl, h1, r1⟩ := trodAll_cons r0
  obtain ⟨v2, vs2, d2, ds2, p2, q2, rfl, rfl, rfl, h2, r2⟩ := trodAll_cons r1
  obtain ⟨rfl, rfl, rfl⟩ := trodAll_nil r2
  obtain rfl : args = #[v0, v1, v2] := by cases args; simp_all
  obtain ⟨rfl, rfl⟩ := trodVars_none hV
  have k0 := h0
  have lt0 : ∀ x ∈ p0, x.block < W.heap.size := by obtain ⟨m, hm⟩ := k0; exact DataW.trod_lt m _ _ _ hm
  obtain ⟨a0, len0, cap0, rfl⟩ := okWide_slice Tryd.underlying22 (hval 0 22 v0 rfl rfl)
  obtain ⟨xs0, I0, z0⟩ : ∃ xs, Sh.IsI W a0 len0 xs ∧ len0 ≤ 9223372036854775807 := by
    obtain ⟨fuel, hf⟩ := h0
    obtain ⟨b0, l0, c0, xs, e, hI, z1, z2⟩ := Sh.list_open (by simpa [Value.cells] using hf)
    simp at e
    obtain ⟨rfl, rfl, rfl⟩ := e
    unfold maxLen at z2
    exact ⟨xs, hI, by omega⟩
  have s0 : len0 ≤ 17592186044416 := by
    obtain ⟨fuel, hf⟩ := k0
    refine list_size Tryd.underlying22 (by kernel_rfl) hf (fun elems spare e => ?_)
    have := sized_slice hsz (j := 0) (t := 22) (e := 2) (elems := elems) (spare := spare) rfl (by rw [← e]; rfl) Tryd.underlying22
    rw [bytesI] at this
    exact this
  have k1 := h1
  have lt1 : ∀ x ∈ p1, x.block < W.heap.size := by obtain ⟨m, hm⟩ := k1; exact DataW.trod_lt m _ _ _ hm
  obtain ⟨a1, len1, cap1, rfl⟩ := okWide_slice Tryd.underlying22 (hval 1 22 v1 rfl rfl)
  obtain ⟨xs1, I1, z1⟩ : ∃ xs, Sh.IsI W a1 len1 xs ∧ len1 ≤ 9223372036854775807 := by
    obtain ⟨fuel, hf⟩ := h1
    obtain ⟨b0, l0, c0, xs, e, hI, z1, z2⟩ := Sh.list_open (by simpa [Value.cells] using hf)
    simp at e
    obtain ⟨rfl, rfl, rfl⟩ := e
    unfold maxLen at z2
    exact ⟨xs, hI, by omega⟩
  have s1 : len1 ≤ 17592186044416 := by
    obtain ⟨fuel, hf⟩ := k1
    refine list_size Tryd.underlying22 (by kernel_rfl) hf (fun elems spare e => ?_)
    have := sized_slice hsz (j := 1) (t := 22) (e := 2) (elems := elems) (spare := spare) rfl (by rw [← e]; rfl) Tryd.underlying22
    rw [bytesI] at this
    exact this
  obtain ⟨a2, rfl, rfl, rfl, w2⟩ := open_int Tryd.underlying2 (hval 2 2 v2 rfl rfl) h2
  have hFr := of_laid hL
  clear hA0 hval0 hsz0 hsz
  refine (Ms.parts_at Ms.moveC Ms.totalC W hFr I0 I1 s0 s1 (by simpa [Lit.wf, Ms.W64] using Ms.lit_w w2)).mono fun e W' ⟨he, bel⟩ => ?_
  subst he
  exact ⟨_, rfl, _, _, _, [], _, [], hW', trodAll_mk1 (shut_bool Tryd.underlying4 _), (trodAll_cons_mk (Below.trod laidOut (by kernel_rfl) (of_decide_eq_true (by kernel_rfl)) k0 bel lt0) (trodAll_cons_mk (Below.trod laidOut (by kernel_rfl) (of_decide_eq_true (by kernel_rfl)) k1 bel lt1) (trodAll_cons_mk (shut_int Tryd.underlying2 w2) trodAll_mk0))), rfl, bel.frame _, fun h => by cases h⟩
theorem over : Rows.massPartsRow.holds Tryd.pinned (OpenSpec.ofChange Rows.massPartsSpec) :=
  OpenClaim.holds_of_wide 7 Tryd.f7 rfl rfl rfl rfl rfl rfl rfl ⟨rfl, rfl, rfl, rfl, rfl⟩ rfl rfl rfl rfl rfl (by kernel_rfl) Tryd.func7 (by kernel_rfl)
    (of_decide_eq_true (by kernel_rfl)) (by unfold Func.isWrapper; first | (rw [if_pos (by decide +kernel)]; kernel_rfl) | (rw [if_neg (by decide +kernel)]; exact ⟨rfl, rfl⟩))
    (fun os started H enc _ => lifted os started H enc)
end Go.Proofs.YtpfndibgfkkcgaaDoor.massPartsDone
namespace Go.Proofs.YtpfndibgfkkcgaaDoor
theorem massParts_holds : Rows.MassPartsCardSaid :=
  Claim7.holds_tied_plain_at .later [] [.wider] true _ false
    massPartsDone.over (fun _ h => by cases h) (by kernel_rfl) (fun _ h => by cases h) massParts_row_tie rfl ⟨rfl, rfl⟩ (by kernel_rfl) rfl
    (fun f fn hf hfn => by
      obtain rfl : f = 7 := Option.some.inj ((show Tryd.prog.funcNamed "tarn/tarnlaw15.MassParts" = some 7 by kernel_rfl).symm.trans hf) |>.symm
      obtain rfl : fn = Tryd.f7 := (Option.some.inj (Tryd.func7.symm.trans hfn)).symm
      exact ⟨by kernel_rfl, fun j t ht => by
        rw [Tryd.params7] at ht
        have h3 : t = 22 ∨ t = 2 := by
          rcases j with _ | _ | _ | j
          · simp at ht; simp [ht]
          · simp at ht; simp [ht]
          · simp at ht; simp [ht]
          · simp at ht
        rcases h3 with rfl | rfl
        · exact (show Tryd.prog.wantsStandIn 22 = false by kernel_rfl)
        · exact (show Tryd.prog.wantsStandIn 2 = false by kernel_rfl)
        ⟩)
    (by kernel_rfl)
#print axioms massParts_holds
end Go.Proofs.YtpfndibgfkkcgaaDoor
