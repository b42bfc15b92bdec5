/-
  For every pair of floats and every list of floats, of any bits and any length that can lie in memory, the call of the statement on Add against the document's answers returns true and leaves the list as it was.
-/
import Derived.Test.YtcamlhpehnfnlaaRows
import Derived.Test.YtcamlhpehnfnlaaTr
import Derived.ProofKit
import Derived.OpenShut
import Derived.Below
import Derived.Carry
import Derived.Deep.Slices
import Derived.Deep.QuietTactic
import Derived.BigQuiet
import Derived.WalkLawsBesides
namespace Go.Proofs.Ytcamlhpehnfnlaa.twinAddsDone
open Go.ChangeShapes Go.WideShapes Go.ChangeAt Go.RowKit Go.Deep Tf

theorem own : ownKnob Try.prog.godebug = none := by kernel_rfl
theorem laidOut : laidOutB Try.prog = true := by kernel_rfl

theorem trod_float {H : Type} {enc : TypeId × Value → H} {P : Program} {w : World} {base : Nat} {spare : Nat → Bool} {held : Bool} {t : TypeId} {fuel : Nat} {v : Value} {x : DataW H × List MemPlace} (ht : P.underlying t = some (.float .f64)) (h : DataW.trod enc P w base spare held fuel t [v] = some x) :
    ∃ b, v = .float .f64 b ∧ (Lit.float .f64 b).wf = true := by
  cases fuel with
  | zero => simp [DataW.trod] at h
  | succ n =>
    unfold DataW.trod at h
    rw [ht] at h
    split at h <;> simp_all
theorem cell_block {w : World} {a : Addr} {v : Value} (h : w.cell? a = some v) : a.block < w.heap.size := by
  by_cases c : a.block < w.heap.size
  · exact c
  · exfalso
    have : w.heap[a.block]? = none := by simp; omega
    simp [World.cell?, this] at h

/-- what the walk is told of the list: it is nil, or it leads to so many floats -/
def IsFloats (w : World) (a : Option Addr) (len cap : Nat) : Prop :=
  len = 0 ∨
  ∃ b off, a = some ⟨b, off, none⟩ ∧ b < w.heap.size ∧ len ≤ cap ∧ cap ≤ maxLen ∧
    ∀ i, i < len → ∃ x, w.cell? ⟨b, off + i, none⟩ = some (.float .f64 x) ∧ x < 18446744073709551616

set_option maxHeartbeats 2000000 in
theorem walk (hi lo : Nat) (a0 : Option Addr) (len cap : Nat) (w : World) (l1 : hi < 18446744073709551616) (l2 : lo < 18446744073709551616) (h0 : IsFloats w a0 len cap) :
    Calls Try.prog 5 #[.float .f64 hi, .float .f64 lo, .slice a0 len cap] w fun e w' => e = .returned (.bool true) ∧ Below w.heap.size w w' := by
  have AW := hid awake_any
  rcases h0 with rfl | ⟨b, off, rfl, hb, hl, hm, hcells⟩
  · clear l1 l2
    go_enter Try.func5, Try.ntmps5
    go_wp2_with fail
    refine (AW.out _).mono ?_
    rintro e w' ⟨rfl, n0, rfl⟩
    go_wp2
    go_loop [7] (fun iv => iv = .int .i64 0) (fun _ => 0)
    case atStart => rfl
    case round =>
      subst hrel
      go_wp2
      go_ret
      exact ⟨rfl, below_drewN (Below.refl _ _) _⟩
  · unfold maxLen at hm
    have HC := hid hcells
    have L1 := hid l1
    have L2 := hid l2
    clear hcells l1 l2
    go_enter Try.func5, Try.ntmps5
    go_wp2_with fail
    refine (AW.out _).mono ?_
    rintro e w' ⟨rfl, n0, rfl⟩
    clear AW
    go_wp2
    go_loopw [0, 1, 7] (fun hv lv iv wr => ∃ k h l : Nat, k ≤ len ∧ hv = .float .f64 h ∧ lv = .float .f64 l ∧ Hid (h < 18446744073709551616) ∧ Hid (l < 18446744073709551616) ∧ iv = .int .i64 k ∧ Below w.heap.size w wr) (fun _ _ iv _ => len - (intOf iv).toNat)
    case atStart => exact ⟨0, hi, lo, Nat.zero_le _, rfl, rfl, L1, L2, rfl, below_drewN (Below.refl _ _) _⟩
    case round =>
      obtain ⟨k, h, l, hk, rfl, rfl, H1, H2, rfl, hbel⟩ := hrel
      by_cases hlt : k < len
      · obtain ⟨x, hx, lx⟩ := HC.out k hlt
        have cx : wr.cell? ⟨b, off + k, none⟩ = some (.float .f64 x) := by rw [hbel.cell (p := ⟨b, off + k, none⟩) hb]; exact hx
        have HB := hid hbel
        obtain ⟨r, hr⟩ : ∃ r, addH h l x = r := ⟨_, rfl⟩
        obtain ⟨q, hq⟩ : ∃ q, addL h l x = q := ⟨_, rfl⟩
        have S1 := hid (fun w => add_at h l x r q w H1.out H2.out lx hr hq)
        have S2 := hid (fun w => radd_at h l x r q w H1.out H2.out lx hr hq)
        have SR := hid same_refl
        have R1 : Hid (r < 18446744073709551616) := by rw [← hr]; exact addH_lt _ _ _ H1.out H2.out lx
        have R2 : Hid (q < 18446744073709551616) := by rw [← hq]; exact addL_lt _ _ _
        clear hx hbel lx hr hq H1 H2
        go_wp2_with fail
        refine (S1.out _).mono ?_
        rintro e w' ⟨rfl, n1, rfl⟩
        go_wp2_with fail
        refine (S2.out _).mono ?_
        rintro e w' ⟨rfl, n2, rfl⟩
        go_wp2_with fail
        refine (SR.out _ _ _).mono ?_
        rintro e w' ⟨rfl, rfl⟩
        go_wp2
        go_roundw
        case rel => exact ⟨k + 1, r, q, by omega, rfl, rfl, R1, R2, by go_num, below_drewN HB.out _⟩
        case measure => simp [intOf]; omega
      · go_wp2
        go_ret
        exact ⟨rfl, hbel⟩

theorem add_off (b off j : Nat) : (⟨b, off, none⟩ : Addr).add j = ⟨b, off + j, none⟩ := by
  by_cases c : j = 0
  · subst c; simp [Addr.add]
  · simp [Addr.add, c]
theorem floats_open {H : Type} {enc : TypeId × Value → H} {W : World} {a0 : Option Addr} {len0 cap0 : Nat} {fuel : Nat} {x : DataW H × List MemPlace}
    (hf : DataW.trod enc Try.prog W 0 (fun _ => true) true fuel 32 [.slice a0 len0 cap0] = some x) : IsFloats W a0 len0 cap0 := by
  rcases open_slice1 Try.underlying32 (by kernel_rfl) hf with ⟨hcs, _⟩ | ⟨a, l, c, m, n, V, D, Pl, hcs, _, hl, hm, hmm, _, hx⟩
  · simp at hcs
    obtain ⟨rfl, rfl, rfl⟩ := hcs
    exact .inl rfl
  · simp at hcs
    obtain ⟨rfl, rfl, rfl⟩ := hcs
    by_cases z : len0 = 0
    · exact .inl z
    · simp only [if_true] at hmm
      have each : ∀ i, i < m → ∃ x : Nat, W.cell? (a.add i) = some (.float .f64 x) ∧ x < 18446744073709551616 := by
        intro i hi
        obtain ⟨h1, h2⟩ := hx i hi
        obtain ⟨x, e, wx⟩ := trod_float Try.underlying24 h2
        rw [e] at h1
        exact ⟨x, h1, lit_lt wx⟩
      obtain ⟨b, off, spot⟩ := a
      obtain ⟨x, c0, _⟩ := each 0 (by omega)
      have hspot : spot = none := by simpa [Addr.add] using World.cell?_spot c0
      subst hspot
      have hb : b < W.heap.size := by rw [add_off] at c0; exact cell_block c0
      refine .inr ⟨b, off, rfl, hb, hl, hm, fun i hi => ?_⟩
      have := each i (by omega)
      simpa only [add_off] using this

set_option maxRecDepth 100000 in
theorem lifted (os : Os) (started : os.Started) (H : Type) (enc : TypeId × Value → H) :
    ReturnsInHanded {} Try.checked os 5 .any (Rows.twinAddsSpec.pre6 enc Try.prog Try.f5 Rows.twinAddsRow.domain false) (Rows.twinAddsSpec.post enc Try.prog Try.f5 false true false false) := by
  refine returnsInHanded_of_change (C := Try.checked) own started (by kernel_rfl) Try.func5
    (ChangeSpec.witness6 (enc := enc) (C := Try.checked) false ⟨#[], #[.float .f64 0, .float .f64 0, .slice none 0 0], []⟩ 8 (by kernel_rfl) (by kernel_rfl) (by kernel_rfl) (by kernel_rfl)) ?_
  intro W base args ds gs before hval0 hW hcnd _
  have hval : ∀ (j : Nat) t v, Try.f5.params[j]? = some t → args[j]? = some v → Value.okWide Try.prog W .any base t v := hval0
  have hW' := hW
  obtain ⟨p, q, hA0, hV, rfl, hfz, hnd⟩ := hW
  have hA : DataW.TrodAll enc Try.prog W 0 (fun _ => true) true Try.f5.params.toList args.toList ds p := hA0
  rw [Try.params5] at hA hval
  obtain ⟨v0, vs0, d0, ds0, p0, q0, hargs, rfl, rfl, h0, r0⟩ := trodAll_cons hA
  obtain ⟨v1, vs1, d1, ds1, p1, q1, rfl, rfl, rfl, h1, r1⟩ := trodAll_cons r0
  obtain ⟨v2, vs2, d2, ds2, p2, q2, rfl, rfl, rfl, h2, r2⟩ := trodAll_cons r1
  obtain ⟨rfl, rfl, rfl⟩ := trodAll_nil r2
  obtain rfl : args = #[v0, v1, v2] := by cases args; simp_all
  obtain ⟨rfl, rfl⟩ := trodVars_none hV
  obtain ⟨a0, rfl, rfl, rfl, w0⟩ := open_float Try.underlying24 (hval 0 24 v0 rfl rfl) h0
  obtain ⟨a1, rfl, rfl, rfl, w1⟩ := open_float Try.underlying24 (hval 1 24 v1 rfl rfl) h1
  obtain ⟨a2, len0, cap0, rfl⟩ := okWide_slice Try.underlying32 (hval 2 32 v2 rfl rfl)
  have k2 := h2
  have lt2 : ∀ x ∈ p2, x.block < W.heap.size := by obtain ⟨m, hm⟩ := k2; exact DataW.trod_lt m _ _ _ hm
  have w2 : IsFloats W a2 len0 cap0 := by
    obtain ⟨fuel, hf⟩ := h2
    exact floats_open hf
  clear hA0 hval0
  refine (walk a0 a1 a2 len0 cap0 W (lit_lt w0) (lit_lt w1) w2).mono fun e W' ⟨he, bel⟩ => ?_
  subst he
  exact ⟨_, rfl, _, _, _, [], _, [], hW', trodAll_mk1 (shut_bool Try.underlying4 _), (trodAll_cons_mk (shut_float Try.underlying24 w0) (trodAll_cons_mk (shut_float Try.underlying24 w1) (trodAll_cons_mk (Below.trod laidOut (by kernel_rfl) (of_decide_eq_true (by kernel_rfl)) k2 bel lt2) trodAll_mk0))), rfl, bel.frame _, fun h => by cases h⟩

theorem over : Rows.twinAddsRow.holds Try.pinned (OpenSpec.ofChange Rows.twinAddsSpec) :=
  OpenClaim.holds_of_wide 5 Try.f5 rfl rfl rfl rfl rfl rfl rfl ⟨rfl, rfl, rfl, rfl, rfl⟩ rfl rfl rfl rfl rfl (by kernel_rfl) Try.func5 (by kernel_rfl)
    (of_decide_eq_true (by kernel_rfl)) (by unfold Func.isWrapper; first | (rw [if_pos (by decide +kernel)]; kernel_rfl) | (rw [if_neg (by decide +kernel)]; exact ⟨rfl, rfl⟩))
    (fun os started H enc _ => lifted os started H enc)

end Go.Proofs.Ytcamlhpehnfnlaa.twinAddsDone
namespace Go.Proofs.Ytcamlhpehnfnlaa
theorem twinAdds_holds : Rows.TwinAddsSaid := twinAddsDone.over
#print axioms twinAdds_holds
end Go.Proofs.Ytcamlhpehnfnlaa
