/-
  For every list of whole numbers, of any length that can lie in memory, the call of the statement on exact sums returns true and leaves the list as it was.
-/
import Derived.Test.YtflkbjcaajchjaaRows
import Derived.Test.YtflkbjcaajchjaaSn
import Derived.ProofKit
import Derived.OpenShut
import Derived.WalkLawsBesides
import Derived.Below
import Derived.SizedLaws
import Derived.Deep.Slices
namespace Go.Proofs.Ytflkbjcaajchjaa.sumExactDone
open Go.ChangeShapes Go.WideShapes Go.ChangeAt Go.RowKit Go.Deep Tf

theorem own : ownKnob Try.prog.godebug = none := by kernel_rfl
theorem laidOut : laidOutB Try.prog = true := by kernel_rfl

theorem trod_float {H : Type} {enc : TypeId × Value → H} {P : Program} {w : World} {base : Nat} {spare : Nat → Bool} {held : Bool} {t : TypeId} {fuel : Nat} {v : Value} {x : DataW H × List MemPlace} (ht : P.underlying t = some (.float .f64)) (h : DataW.trod enc P w base spare held fuel t [v] = some x) :
    ∃ b, v = .float .f64 b ∧ (Lit.float .f64 b).wf = true := by
  cases fuel with
  | zero => simp [DataW.trod] at h
  | succ n =>
    unfold DataW.trod at h
    rw [ht] at h
    split at h <;> simp_all
theorem cell_block {w : World} {a : Addr} {v : Value} (h : w.cell? a = some v) : a.block < w.heap.size := by
  by_cases c : a.block < w.heap.size
  · exact c
  · exfalso
    have : w.heap[a.block]? = none := by simp; omega
    simp [World.cell?, this] at h


theorem bytesF : Try.checked.prog.bytesOf 25 = 8 := by kernel_rfl
theorem bytesI : Try.checked.prog.bytesOf 2 = 8 := by kernel_rfl
theorem list_size {H : Type} {enc : TypeId × Value → H} {W : World} {a0 : Option Addr} {len0 cap0 : Nat} {fuel : Nat} {x : DataW H × List MemPlace} {T E : TypeId} (hu : Try.prog.underlying T = some (.slice E)) (hc : Try.prog.cellsOf E = 1)
    (hf : DataW.trod enc Try.prog W 0 (fun _ => true) true fuel T [.slice a0 len0 cap0] = some x) (hs : ∀ elems spare, x.1 = .slice elems spare → (elems.length + spare.length) * 8 ≤ reachBytes) : len0 ≤ cap0 ∧ (cap0 : Int) ≤ 17592186044416 ∧ (a0 = none → cap0 = 0) := by
  rcases open_slice1 hu hc hf with ⟨hcs, _⟩ | ⟨a, l, c, m, n, V, D, Pl, hcs, _, hl, hm, hmm, hx, _⟩
  · simp at hcs
    obtain ⟨rfl, rfl, rfl⟩ := hcs
    exact ⟨Nat.le_refl _, by decide, fun _ => rfl⟩
  · simp at hcs
    obtain ⟨rfl, rfl, rfl⟩ := hcs
    simp only [if_true] at hmm
    subst hmm
    have := hs _ _ (by rw [hx])
    simp only [List.length_map, List.length_range, reachBytes] at this
    exact ⟨hl, by omega, fun h => by cases h⟩
theorem add_off (b off j : Nat) : (⟨b, off, none⟩ : Addr).add j = ⟨b, off + j, none⟩ := by
  by_cases c : j = 0
  · subst c; simp [Addr.add]
  · simp [Addr.add, c]
/-- what the walk is told of the list: it is nil, or it leads to so many whole numbers -/
def IsInts (w : World) (a : Option Addr) (len cap : Nat) : Prop :=
  len = 0 ∨
  ∃ b off, a = some ⟨b, off, none⟩ ∧ b < w.heap.size ∧ len ≤ cap ∧ cap ≤ maxLen ∧
    ∀ i, i < len → ∃ x : Int, w.cell? ⟨b, off + i, none⟩ = some (.int .i64 x) ∧ -9223372036854775808 ≤ x ∧ x ≤ 9223372036854775807

theorem trod_int1 {H : Type} {enc : TypeId × Value → H} {P : Program} {w : World} {base : Nat} {spare : Nat → Bool} {held : Bool} {t : TypeId} {k : IntKind} {fuel : Nat} {v : Value} {x : DataW H × List MemPlace} (ht : P.underlying t = some (.int k)) (h : DataW.trod enc P w base spare held fuel t [v] = some x) :
    ∃ b, v = .int k b ∧ (Lit.int k b).wf = true := by
  cases fuel with
  | zero => simp [DataW.trod] at h
  | succ n =>
    unfold DataW.trod at h
    rw [ht] at h
    split at h <;> simp_all
theorem ints_open {H : Type} {enc : TypeId × Value → H} {W : World} {a0 : Option Addr} {len0 cap0 : Nat} {fuel : Nat} {x : DataW H × List MemPlace}
    (hf : DataW.trod enc Try.prog W 0 (fun _ => true) true fuel 32 [.slice a0 len0 cap0] = some x) : IsInts W a0 len0 cap0 := by
  rcases open_slice1 Try.underlying32 (by kernel_rfl) hf with ⟨hcs, _⟩ | ⟨a, l, c, m, n, V, D, Pl, hcs, _, hl, hm, hmm, _, hx⟩
  · simp at hcs
    obtain ⟨rfl, rfl, rfl⟩ := hcs
    exact .inl rfl
  · simp at hcs
    obtain ⟨rfl, rfl, rfl⟩ := hcs
    by_cases z : len0 = 0
    · exact .inl z
    · simp only [if_true] at hmm
      have each : ∀ i, i < m → ∃ x : Int, W.cell? (a.add i) = some (.int .i64 x) ∧ -9223372036854775808 ≤ x ∧ x ≤ 9223372036854775807 := by
        intro i hi
        obtain ⟨h1, h2⟩ := hx i hi
        obtain ⟨x, e, wx⟩ := trod_int1 Try.underlying2 h2
        rw [e] at h1
        simp only [Lit.wf, Bool.and_eq_true, decide_eq_true_eq] at wx
        have q1 : IntKind.i64.min = -9223372036854775808 := by decide
        have q2 : IntKind.i64.max = 9223372036854775807 := by decide
        rw [q1, q2] at wx
        exact ⟨x, h1, wx.1, wx.2⟩
      obtain ⟨b, off, spot⟩ := a
      obtain ⟨x, c0, _⟩ := each 0 (by omega)
      have hspot : spot = none := by simpa [Addr.add] using World.cell?_spot c0
      subst hspot
      have hb : b < W.heap.size := by rw [add_off] at c0; exact cell_block c0
      refine .inr ⟨b, off, rfl, hb, hl, hm, fun i hi => ?_⟩
      have := each i (by omega)
      simpa only [add_off] using this


theorem ints_fn {w : World} {a : Option Addr} {len cap : Nat} (h : IsInts w a len cap) : ∃ ns : Nat → Int, IsIn w a len ns := by
  rcases h with h | ⟨b, off, rfl, hb, _, _, hc⟩
  · exact ⟨fun _ => 0, fun k hk => by omega⟩
  · have : ∀ i, ∃ x : Int, i < len → w.cell? ⟨b, off + i, none⟩ = some (.int .i64 x) ∧ -9223372036854775808 ≤ x ∧ x ≤ 9223372036854775807 := by
      intro i
      by_cases c : i < len
      · obtain ⟨x, h1⟩ := hc i c
        exact ⟨x, fun _ => h1⟩
      · exact ⟨0, fun h => absurd h c⟩
    exact ⟨fun i => (this i).choose, fun k hk => ⟨((this k).choose_spec hk).2, b, off, rfl, hb, ((this k).choose_spec hk).1⟩⟩
theorem walk (a1 : Option Addr) (len cap : Nat) (w : World) (h1 : IsInts w a1 len cap) (z : len ≤ cap ∧ (cap : Int) ≤ 17592186044416 ∧ (a1 = none → cap = 0)) :
    Calls Try.prog 5 #[.slice a1 len cap] w fun e w' => e = .returned (.bool true) ∧ Below w.heap.size w w' := by
  obtain ⟨ns, hns⟩ := ints_fn h1
  exact (ex_walk a1 len cap ns w z.1 hns).mono fun _ _ ⟨he, hb⟩ => ⟨he, hb.out⟩

set_option maxRecDepth 100000 in
theorem lifted (os : Os) (started : os.Started) (H : Type) (enc : TypeId × Value → H) :
    ReturnsInHanded {} Try.checked os 5 .any (Rows.sumExactSpec.pre6 enc Try.prog Try.f5 Rows.sumExactRow.domain false) (Rows.sumExactSpec.post enc Try.prog Try.f5 false true false false) := by
  refine returnsInHanded_of_change_sized (C := Try.checked) own started (by kernel_rfl) Try.func5
    (ChangeSpec.witness6 (enc := enc) (C := Try.checked) false ⟨#[], #[.slice none 0 0], []⟩ 8 (by kernel_rfl) (by kernel_rfl) (by kernel_rfl) (by kernel_rfl)) ?_
  intro W base args ds gs before hval0 hW hcnd hsz0 _
  have hsz : (DataW.weightsEach Try.checked.prog (Try.f5.params.toList ++ Rows.sumExactSpec.plain.varTypes Try.checked.prog) (ds ++ gs)).all (· ≤ reachBytes) = true := hsz0
  have hval : ∀ (j : Nat) t v, Try.f5.params[j]? = some t → args[j]? = some v → Value.okWide Try.prog W .any base t v := hval0
  have hW' := hW
  obtain ⟨p, q, hA0, hV, rfl, hfz, hnd⟩ := hW
  have hA : DataW.TrodAll enc Try.prog W 0 (fun _ => true) true Try.f5.params.toList args.toList ds p := hA0
  rw [Try.params5] at hA hval hsz
  obtain ⟨v0, vs0, d0, ds0, p0, q0, hargs, rfl, rfl, h0, r0⟩ := trodAll_cons hA
  obtain ⟨rfl, rfl, rfl⟩ := trodAll_nil r0
  obtain rfl : args = #[v0] := by cases args; simp_all
  obtain ⟨rfl, rfl⟩ := trodVars_none hV
  obtain ⟨a0, len0, cap0, rfl⟩ := okWide_slice Try.underlying32 (hval 0 32 v0 rfl rfl)
  have k0 := h0
  have lt0 : ∀ x ∈ p0, x.block < W.heap.size := by obtain ⟨m, hm⟩ := k0; exact DataW.trod_lt m _ _ _ hm
  have z0 : len0 ≤ cap0 ∧ (cap0 : Int) ≤ 17592186044416 ∧ (a0 = none → cap0 = 0) := by
    obtain ⟨fuel, hf⟩ := h0
    refine list_size Try.underlying32 (by kernel_rfl) hf (fun elems spare e => ?_)
    have := sized_slice hsz (j := 0) (t := 32) (e := 2) (elems := elems) (spare := spare) rfl (by rw [← e]; rfl) Try.underlying32
    rw [bytesI] at this
    exact this
  have w0 : IsInts W a0 len0 cap0 := by
    obtain ⟨fuel, hf⟩ := h0
    exact ints_open hf
  clear hA0 hval0 hsz0 hsz
  refine (walk a0 len0 cap0 W w0 z0).mono fun e W' ⟨he, bel⟩ => ?_
  subst he
  exact ⟨_, rfl, _, _, _, [], _, [], hW', trodAll_mk1 (shut_bool Try.underlying4 _), (trodAll_cons_mk (Below.trod laidOut (by kernel_rfl) (of_decide_eq_true (by kernel_rfl)) k0 bel lt0) trodAll_mk0), rfl, bel.frame _, fun h => by cases h⟩

theorem over : Rows.sumExactRow.holds Try.pinned (OpenSpec.ofChange Rows.sumExactSpec) :=
  OpenClaim.holds_of_wide 5 Try.f5 rfl rfl rfl rfl rfl rfl rfl ⟨rfl, rfl, rfl, rfl, rfl⟩ rfl rfl rfl rfl rfl (by kernel_rfl) Try.func5 (by kernel_rfl)
    (of_decide_eq_true (by kernel_rfl)) (by unfold Func.isWrapper; first | (rw [if_pos (by decide +kernel)]; kernel_rfl) | (rw [if_neg (by decide +kernel)]; exact ⟨rfl, rfl⟩))
    (fun os started H enc _ => lifted os started H enc)

end Go.Proofs.Ytflkbjcaajchjaa.sumExactDone
namespace Go.Proofs.Ytflkbjcaajchjaa
theorem sumExact_holds : Rows.SumExactSaid := sumExactDone.over
#print axioms sumExact_holds
end Go.Proofs.Ytflkbjcaajchjaa
