/-
  Proved: for every two lists of numbers of together at most 1048576 numbers (spare room counted): Total is the document's sum, with the document's error, and the same with both lists changed about; what is handed in stays. Conditions: the bulk of what is handed in is at most 1048576 (the second form of the statement: beyond 2^32 numbers the reference's own counters wrap). The table of the faces starts as the program lays it (tied).
-/
import Derived.Test.YtpfndibgfkkcgaaDoorRows
import Derived.Test.YtpfndibgfkkcgaaDoorTie
import Derived.Test.YtpfndibgfkkcgaaDoorCards
import Derived.SevenTiedAt
import Derived.Test.YtpfndibgfkkcgaaDoorZ09
namespace Go.Proofs.YtpfndibgfkkcgaaDoor.massTotalsDone
open Go.ChangeShapes Go.WideShapes Go.ChangeAt Go.WideMaps Go.WideElems Go.RowKit Cu
theorem laidOut : laidOutB Tryd.prog = true := by kernel_rfl
/-- how long a list of so little bulk can be -/
theorem bulk_len {H : Type} : ∀ l : List (DataW H), l.length ≤ Rows.uptoBulkAll l
  | [] => Nat.zero_le _
  | d :: r => by
    have h := bulk_len r
    have k : 1 ≤ Rows.uptoBulk d := by cases d <;> unfold Rows.uptoBulk <;> (try split) <;> omega
    show r.length + 1 ≤ Rows.uptoBulk d + Rows.uptoBulkAll r
    omega
theorem list_bulk {H : Type} {enc : TypeId × Value → H} {W : World} {a0 : Option Addr} {len0 cap0 : Nat} {fuel : Nat} {x : DataW H × List MemPlace} {T E : TypeId} (hu : Tryd.prog.underlying T = some (.slice E)) (hc : Tryd.prog.cellsOf E = 1)
    (hf : DataW.trod enc Tryd.prog W 0 (fun _ => true) true fuel T [.slice a0 len0 cap0] = some x) : len0 ≤ Rows.uptoBulk x.1 := by
  rcases Go.Deep.open_slice1 hu hc hf with ⟨hcs, _⟩ | ⟨a, l, c, m, n, V, D, Pl, hcs, _, hl, hm, hmm, hx, _⟩
  · simp at hcs
    obtain ⟨rfl, rfl, rfl⟩ := hcs
    exact Nat.zero_le _
  · simp at hcs
    obtain ⟨rfl, rfl, rfl⟩ := hcs
    rw [hx]
    have k := bulk_len ((List.range len0).map D)
    rw [List.length_map, List.length_range] at k
    show len0 ≤ Rows.uptoBulkAll ((List.range len0).map D) + Rows.uptoBulkAll ((List.range (m - len0)).map (fun j => D (len0 + j))) + 1
    omega
theorem witness (os : Os) (H : Type) (enc : TypeId × Value → H) : ∃ (w : World) (tape : Tape) (i : Input), w.os = os ∧ (w.forCall tape i).Shaped Tryd.checked.prog ∧ i.vars = [] ∧ Input.okWide Tryd.checked.prog (w.forCall tape i) .any w.heap.size 3 i ∧
      (((Rows.OpenSpec.upto Rows.massTotalsSpec).pre enc Tryd.checked.prog Tryd.f3 [] false (w.forCall tape i).memory i.args ∧ laidMetH Tryd.prog [("tarn/cube.frames", Rows.laid_tarn_cube_frames)] (w.forCall tape i).memory) ∧ sizedMet enc Tryd.checked.prog Tryd.f3 (Rows.OpenSpec.upto Rows.massTotalsSpec) false (w.forCall tape i).memory i.args) ∧ ({} : Assume).holds Tryd.checked.prog (lone (Frame.enter Tryd.checked.prog 3 i.args .normal) [] (w.forCall tape i)) := by
  obtain ⟨w, tape, i, h1, h2, h3, h4, h5, h6⟩ := ChangeSpec.witness_shaped (enc := enc) (C := Tryd.checked) (os := os) (f := 3) (fn := Tryd.f3) (s := Rows.massTotalsSpec) (conds := []) (apart := false) (X := fun w args => laidMetH Tryd.prog [("tarn/cube.frames", Rows.laid_tarn_cube_frames)] w ∧ ∃ x, DataW.whole enc Tryd.checked.prog w Tryd.f3.params.toList [] false args.toList 8 = some x ∧ Rows.uptoSmall H (x.1 ++ x.2.1) = true) false (World.doorLaid Tryd.prog 400 os) #[.slice none 0 0, .slice none 0 0] 8 rfl (World.shaped_of_RefB (by kernel_rfl) (by kernel_rfl)) (by kernel_rfl) (by kernel_rfl) (by kernel_rfl) ⟨door_met os _, ([.nil, .nil], [], []), by kernel_rfl, by kernel_rfl⟩
  obtain ⟨⟨h7, h8, x, hx, hk⟩, h9⟩ := h5
  exact ⟨w, tape, i, h1, h2, h3, h4, ⟨⟨(OpenSpec.pre_some rfl [] false _ _).2 ⟨x.1, x.2.1, x.2.2, DataW.Whole_of_whole hx, rfl, hk⟩, h8⟩, h9⟩, h6⟩
set_option maxRecDepth 100000 in
theorem lifted (os : Os) (started : os.Started) (H : Type) (enc : TypeId × Value → H) (Fi : Stop.Interp) :
    ReturnsInHanded {} Tryd.checked os 3 .any (fun w args => ((Rows.OpenSpec.upto Rows.massTotalsSpec).pre enc Tryd.prog Tryd.f3 [] false w args ∧ laidMetH Tryd.prog [("tarn/cube.frames", Rows.laid_tarn_cube_frames)] w) ∧ sizedMet enc Tryd.prog Tryd.f3 (Rows.OpenSpec.upto Rows.massTotalsSpec) false w args)
      (((Rows.OpenSpec.upto Rows.massTotalsSpec).at Fi).post enc Tryd.prog Tryd.f3 false true false false) := by
  refine Ms.handed_cond (C := Tryd.checked) (s := (Rows.OpenSpec.upto Rows.massTotalsSpec)) (k := Rows.uptoSmall) rfl (X := fun w _ => laidMetH Tryd.prog [("tarn/cube.frames", Rows.laid_tarn_cube_frames)] w) (fun _ _ _ hh h => h.of_heap hh) own started (by kernel_rfl) Tryd.func3 (witness os H enc) ?_
  intro W base args ds gs before hval0 hW hkk hL
  have hval : ∀ (j : Nat) t v, Tryd.f3.params[j]? = some t → args[j]? = some v → Value.okWide Tryd.prog W .any base t v := hval0
  have hW' := hW
  obtain ⟨p, q, hA0, hV, rfl, hfz, hnd⟩ := hW
  have hA : DataW.TrodAll enc Tryd.prog W 0 (fun _ => true) true Tryd.f3.params.toList args.toList ds p := hA0
  rw [Tryd.params3] at hA hval
  obtain ⟨v0, vs0, d0, ds0, p0, q0, hargs, rfl, rfl, h0, r0⟩ := trodAll_cons hA
  obtain ⟨v1, vs1, d1, ds1, p1, q1, rfl, rfl, rfl, h1, r1⟩ := trodAll_cons r0
  obtain ⟨rfl, rfl, rfl⟩ := trodAll_nil r1
  obtain rfl : args = #[v0, v1] := by cases args; simp_all
  obtain ⟨rfl, rfl⟩ := trodVars_none hV
  have k0 := h0
  have lt0 : ∀ x ∈ p0, x.block < W.heap.size := by obtain ⟨m, hm⟩ := k0; exact DataW.trod_lt m _ _ _ hm
  obtain ⟨a0, len0, cap0, rfl⟩ := okWide_slice Tryd.underlying22 (hval 0 22 v0 rfl rfl)
  obtain ⟨xs0, I0⟩ : ∃ xs, Sh.IsI W a0 len0 xs := by
    obtain ⟨fuel, hf⟩ := h0
    obtain ⟨b0, l0, c0, xs, e, hI, -⟩ := Sh.list_open (by simpa [Value.cells] using hf)
    simp at e
    obtain ⟨rfl, rfl, rfl⟩ := e
    exact ⟨xs, hI⟩
  have s0 : len0 ≤ Rows.uptoBulk d0 := by
    obtain ⟨fuel, hf⟩ := k0
    exact list_bulk (x := (d0, p0)) Tryd.underlying22 (by kernel_rfl) (by simpa [Value.cells] using hf)
  have k1 := h1
  have lt1 : ∀ x ∈ p1, x.block < W.heap.size := by obtain ⟨m, hm⟩ := k1; exact DataW.trod_lt m _ _ _ hm
  obtain ⟨a1, len1, cap1, rfl⟩ := okWide_slice Tryd.underlying22 (hval 1 22 v1 rfl rfl)
  obtain ⟨xs1, I1⟩ : ∃ xs, Sh.IsI W a1 len1 xs := by
    obtain ⟨fuel, hf⟩ := h1
    obtain ⟨b0, l0, c0, xs, e, hI, -⟩ := Sh.list_open (by simpa [Value.cells] using hf)
    simp at e
    obtain ⟨rfl, rfl, rfl⟩ := e
    exact ⟨xs, hI⟩
  have s1 : len1 ≤ Rows.uptoBulk d1 := by
    obtain ⟨fuel, hf⟩ := k1
    exact list_bulk (x := (d1, p1)) Tryd.underlying22 (by kernel_rfl) (by simpa [Value.cells] using hf)
  have hb : Rows.uptoBulk d0 + (Rows.uptoBulk d1 + 0) ≤ 1048576 := of_decide_eq_true hkk
  have hFr := of_laid hL
  clear hA0 hval0
  refine (Ms.totals_at Ms.moveC Ms.totalC W hFr I0 I1 (by omega)).mono fun e W' ⟨he, bel⟩ => ?_
  subst he
  exact ⟨_, rfl, _, _, _, [], _, [], hW', trodAll_mk1 (shut_bool Tryd.underlying4 _), (trodAll_cons_mk (Below.trod laidOut (by kernel_rfl) (of_decide_eq_true (by kernel_rfl)) k0 bel lt0) (trodAll_cons_mk (Below.trod laidOut (by kernel_rfl) (of_decide_eq_true (by kernel_rfl)) k1 bel lt1) trodAll_mk0)), rfl, bel.frame _, fun h => by cases h⟩
theorem over : Rows.massTotalsUptoRow.holds Tryd.pinned (Rows.OpenSpec.upto Rows.massTotalsSpec) :=
  OpenClaim.holds_of_cond 3 Tryd.f3 rfl rfl rfl rfl rfl rfl rfl ⟨rfl, rfl, rfl, rfl, rfl⟩ rfl rfl rfl rfl rfl (by kernel_rfl) Tryd.func3 (by kernel_rfl)
    (of_decide_eq_true (by kernel_rfl)) (by unfold Func.isWrapper; first | (rw [if_pos (by decide +kernel)]; kernel_rfl) | (rw [if_neg (by decide +kernel)]; exact ⟨rfl, rfl⟩))
    (fun os started H enc _ Fi => lifted os started H enc Fi)
end Go.Proofs.YtpfndibgfkkcgaaDoor.massTotalsDone
namespace Go.Proofs.YtpfndibgfkkcgaaDoor
theorem massTotals_holds : Rows.MassTotalsUptoCardSaid :=
  Claim7.holds_tied_plain_at .later [] [.wider] true _ false
    massTotalsDone.over (fun _ h => by cases h) (by kernel_rfl) (fun _ h => by cases h) massTotalsUpto_row_tie rfl ⟨rfl, rfl⟩ (by kernel_rfl) rfl
    (fun f fn hf hfn => by
      obtain rfl : f = 3 := Option.some.inj ((show Tryd.prog.funcNamed "tarn/tarnlaw15.MassTotals" = some 3 by kernel_rfl).symm.trans hf) |>.symm
      obtain rfl : fn = Tryd.f3 := (Option.some.inj (Tryd.func3.symm.trans hfn)).symm
      exact ⟨by kernel_rfl, fun j t ht => by
        rw [Tryd.params3] at ht
        have h3 : t = 22 := by
          rcases j with _ | _ | j
          · simp at ht; simp [ht]
          · simp at ht; simp [ht]
          · simp at ht
        subst h3
        exact (show Tryd.prog.wantsStandIn 22 = false by kernel_rfl)
        ⟩)
    (by kernel_rfl)
#print axioms massTotals_holds
end Go.Proofs.YtpfndibgfkkcgaaDoor
