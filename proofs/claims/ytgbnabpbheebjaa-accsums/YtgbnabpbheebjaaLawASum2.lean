/-
  For every list of floats, of any length that can lie in memory, and every whole number, the call of the statement on sums in another order returns true and leaves the list as it was.
-/
import Derived.Test.YtgbnabpbheebjaaRows
import Derived.Test.YtgbnabpbheebjaaHp
import Derived.ProofKit
import Derived.OpenShut
import Derived.WalkLawsBesides
import Derived.Below
import Derived.Deep.Slices
namespace Go.Proofs.Ytgbnabpbheebjaa.accSumsDone
open Go.ChangeShapes Go.WideShapes Go.ChangeAt Go.RowKit Go.Deep Tf

theorem own : ownKnob Try.prog.godebug = none := by kernel_rfl
theorem laidOut : laidOutB Try.prog = true := by kernel_rfl

theorem trod_float {H : Type} {enc : TypeId × Value → H} {P : Program} {w : World} {base : Nat} {spare : Nat → Bool} {held : Bool} {t : TypeId} {fuel : Nat} {v : Value} {x : DataW H × List MemPlace} (ht : P.underlying t = some (.float .f64)) (h : DataW.trod enc P w base spare held fuel t [v] = some x) :
    ∃ b, v = .float .f64 b ∧ (Lit.float .f64 b).wf = true := by
  cases fuel with
  | zero => simp [DataW.trod] at h
  | succ n =>
    unfold DataW.trod at h
    rw [ht] at h
    split at h <;> simp_all
theorem cell_block {w : World} {a : Addr} {v : Value} (h : w.cell? a = some v) : a.block < w.heap.size := by
  by_cases c : a.block < w.heap.size
  · exact c
  · exfalso
    have : w.heap[a.block]? = none := by simp; omega
    simp [World.cell?, this] at h

/-- what the walk is told of the list: it is nil, or it leads to so many floats -/
def IsFloats (w : World) (a : Option Addr) (len cap : Nat) : Prop :=
  len = 0 ∨
  ∃ b off, a = some ⟨b, off, none⟩ ∧ b < w.heap.size ∧ len ≤ cap ∧ cap ≤ maxLen ∧
    ∀ i, i < len → ∃ x, w.cell? ⟨b, off + i, none⟩ = some (.float .f64 x) ∧ x < 18446744073709551616

theorem add_off (b off j : Nat) : (⟨b, off, none⟩ : Addr).add j = ⟨b, off + j, none⟩ := by
  by_cases c : j = 0
  · subst c; simp [Addr.add]
  · simp [Addr.add, c]
theorem floats_open {H : Type} {enc : TypeId × Value → H} {W : World} {a0 : Option Addr} {len0 cap0 : Nat} {fuel : Nat} {x : DataW H × List MemPlace}
    (hf : DataW.trod enc Try.prog W 0 (fun _ => true) true fuel 43 [.slice a0 len0 cap0] = some x) : IsFloats W a0 len0 cap0 := by
  rcases open_slice1 Try.underlying43 (by kernel_rfl) hf with ⟨hcs, _⟩ | ⟨a, l, c, m, n, V, D, Pl, hcs, _, hl, hm, hmm, _, hx⟩
  · simp at hcs
    obtain ⟨rfl, rfl, rfl⟩ := hcs
    exact .inl rfl
  · simp at hcs
    obtain ⟨rfl, rfl, rfl⟩ := hcs
    by_cases z : len0 = 0
    · exact .inl z
    · simp only [if_true] at hmm
      have each : ∀ i, i < m → ∃ x : Nat, W.cell? (a.add i) = some (.float .f64 x) ∧ x < 18446744073709551616 := by
        intro i hi
        obtain ⟨h1, h2⟩ := hx i hi
        obtain ⟨x, e, wx⟩ := trod_float Try.underlying30 h2
        rw [e] at h1
        exact ⟨x, h1, lit_lt wx⟩
      obtain ⟨b, off, spot⟩ := a
      obtain ⟨x, c0, _⟩ := each 0 (by omega)
      have hspot : spot = none := by simpa [Addr.add] using World.cell?_spot c0
      subst hspot
      have hb : b < W.heap.size := by rw [add_off] at c0; exact cell_block c0
      refine .inr ⟨b, off, rfl, hb, hl, hm, fun i hi => ?_⟩
      have := each i (by omega)
      simpa only [add_off] using this


theorem floats_fn {w : World} {a : Option Addr} {len cap : Nat} (h : IsFloats w a len cap) : ∃ xs : Nat → Nat, IsFl w a len xs := by
  rcases h with h | ⟨b, off, rfl, hb, _, _, hc⟩
  · exact ⟨fun _ => 0, fun k hk => by omega⟩
  · have : ∀ i, ∃ x, i < len → w.cell? ⟨b, off + i, none⟩ = some (.float .f64 x) ∧ x < 18446744073709551616 := by
      intro i
      by_cases c : i < len
      · obtain ⟨x, h1⟩ := hc i c
        exact ⟨x, fun _ => h1⟩
      · exact ⟨0, fun h => absurd h c⟩
    exact ⟨fun i => (this i).choose, fun k hk => ⟨((this k).choose_spec hk).2, b, off, rfl, hb, ((this k).choose_spec hk).1⟩⟩

attribute [local go_sem] run_bits run_from raw_feq raw_fne raw_flt raw_fgt run_neg
set_option maxHeartbeats 4000000 in
theorem go_long (len : Nat) (a1 : Option Addr) (cap : Nat) (k : Int) (w : World) (hl : 65536 < (len : Int)) :
    Calls Try.prog 4 #[.slice a1 len cap, .int .i64 k] w fun e w' => e = .returned (.bool true) ∧ Below w.heap.size w w' := by
  have AW := hid awake_any
  go_enter Try.func4, Try.ntmps4
  go_wp2_with fail
  refine (AW.out _).mono ?_
  rintro e w1 ⟨rfl, b1⟩
  go_wp2
  go_ret
  exact ⟨rfl, b1.out⟩
theorem walk (a1 : Option Addr) (len cap : Nat) (k : Int) (w : World) (h1 : IsFloats w a1 len cap) :
    Calls Try.prog 4 #[.slice a1 len cap, .int .i64 k] w fun e w' => e = .returned (.bool true) ∧ Below w.heap.size w w' := by
  obtain ⟨xs, hxs⟩ := floats_fn h1
  by_cases c : len ≤ 65536
  · by_cases c0 : len = 0
    · subst c0
      exact su_none a1 cap k xs w hxs
    · have hu : 0 ≤ IntKind.u64.wrap k := by rw [u64wr]; omega
      have ht : (IntKind.u64.wrap k).tmod (len : Int) = (IntKind.u64.wrap k) % (len : Int) := Int.tmod_eq_emod_of_nonneg hu
      obtain ⟨q, hq⟩ : ∃ q, (IntKind.u64.wrap k).tmod (len : Int) = q := ⟨_, rfl⟩
      have q0 : 0 ≤ q := by rw [← hq, ht]; exact Int.emod_nonneg _ (by omega)
      have q1 : q < len := by rw [← hq, ht]; exact Int.emod_lt_of_pos _ (by omega)
      exact su_go a1 len cap k xs w c (by omega) (by omega) hxs q q.toNat (by show q = _; omega) hq q0 q1 _ rfl
  · exact go_long len a1 cap k w (by omega)

set_option maxRecDepth 100000 in
theorem lifted (os : Os) (started : os.Started) (H : Type) (enc : TypeId × Value → H) :
    ReturnsInHanded {} Try.checked os 4 .any (Rows.accSumsSpec.pre6 enc Try.prog Try.f4 Rows.accSumsRow.domain false) (Rows.accSumsSpec.post enc Try.prog Try.f4 false true false false) := by
  refine returnsInHanded_of_change (C := Try.checked) own started (by kernel_rfl) Try.func4
    (ChangeSpec.witness6 (enc := enc) (C := Try.checked) false ⟨#[], #[.slice none 0 0, .int .i64 0], []⟩ 8 (by kernel_rfl) (by kernel_rfl) (by kernel_rfl) (by kernel_rfl)) ?_
  intro W base args ds gs before hval0 hW hcnd _
  have hval : ∀ (j : Nat) t v, Try.f4.params[j]? = some t → args[j]? = some v → Value.okWide Try.prog W .any base t v := hval0
  have hW' := hW
  obtain ⟨p, q, hA0, hV, rfl, hfz, hnd⟩ := hW
  have hA : DataW.TrodAll enc Try.prog W 0 (fun _ => true) true Try.f4.params.toList args.toList ds p := hA0
  rw [Try.params4] at hA hval
  obtain ⟨v0, vs0, d0, ds0, p0, q0, hargs, rfl, rfl, h0, r0⟩ := trodAll_cons hA
  obtain ⟨v1, vs1, d1, ds1, p1, q1, rfl, rfl, rfl, h1, r1⟩ := trodAll_cons r0
  obtain ⟨rfl, rfl, rfl⟩ := trodAll_nil r1
  obtain rfl : args = #[v0, v1] := by cases args; simp_all
  obtain ⟨rfl, rfl⟩ := trodVars_none hV
  obtain ⟨a0, len0, cap0, rfl⟩ := okWide_slice Try.underlying43 (hval 0 43 v0 rfl rfl)
  have k0 := h0
  have lt0 : ∀ x ∈ p0, x.block < W.heap.size := by obtain ⟨m, hm⟩ := k0; exact DataW.trod_lt m _ _ _ hm
  have w0 : IsFloats W a0 len0 cap0 := by
    obtain ⟨fuel, hf⟩ := h0
    exact floats_open hf
  obtain ⟨a1, rfl, rfl, rfl, w1⟩ := open_int Try.underlying3 (hval 1 3 v1 rfl rfl) h1
  clear hA0 hval0
  refine (walk a0 len0 cap0 a1 W w0).mono fun e W' ⟨he, bel⟩ => ?_
  subst he
  exact ⟨_, rfl, _, _, _, [], _, [], hW', trodAll_mk1 (shut_bool Try.underlying4 _), (trodAll_cons_mk (Below.trod laidOut (by kernel_rfl) (of_decide_eq_true (by kernel_rfl)) k0 bel lt0) (trodAll_cons_mk (shut_int Try.underlying3 w1) trodAll_mk0)), rfl, bel.frame _, fun h => by cases h⟩

theorem over : Rows.accSumsRow.holds Try.pinned (OpenSpec.ofChange Rows.accSumsSpec) :=
  OpenClaim.holds_of_wide 4 Try.f4 rfl rfl rfl rfl rfl rfl rfl ⟨rfl, rfl, rfl, rfl, rfl⟩ rfl rfl rfl rfl rfl (by kernel_rfl) Try.func4 (by kernel_rfl)
    (of_decide_eq_true (by kernel_rfl)) (by unfold Func.isWrapper; first | (rw [if_pos (by decide +kernel)]; kernel_rfl) | (rw [if_neg (by decide +kernel)]; exact ⟨rfl, rfl⟩))
    (fun os started H enc _ => lifted os started H enc)

end Go.Proofs.Ytgbnabpbheebjaa.accSumsDone
namespace Go.Proofs.Ytgbnabpbheebjaa
theorem accSums_holds : Rows.AccSumsSaid := accSumsDone.over
#print axioms accSums_holds
end Go.Proofs.Ytgbnabpbheebjaa
