/-
  For every list of pairs of floats, of any bits and any length that can lie in memory, the call of the statement on Product and Split against the document's answers returns true and leaves the list as it was.
-/
import Derived.Test.YtcamlhpehnfnlaaRows
import Derived.Test.YtcamlhpehnfnlaaTp
import Derived.ProofKit
import Derived.OpenShut
import Derived.Below
import Derived.Carry
import Derived.Deep.SlicePairs
import Derived.Deep.QuietTactic
import Derived.BigQuiet
import Derived.WalkLawsBesides
namespace Go.Proofs.Ytcamlhpehnfnlaa.twinProductsDone
open Go.ChangeShapes Go.WideShapes Go.ChangeAt Go.RowKit Go.Deep Tf

theorem own : ownKnob Try.prog.godebug = none := by kernel_rfl
theorem laidOut : laidOutB Try.prog = true := by kernel_rfl

theorem trod_float {H : Type} {enc : TypeId × Value → H} {P : Program} {w : World} {base : Nat} {spare : Nat → Bool} {held : Bool} {t : TypeId} {fuel : Nat} {v : Value} {x : DataW H × List MemPlace} (ht : P.underlying t = some (.float .f64)) (h : DataW.trod enc P w base spare held fuel t [v] = some x) :
    ∃ b, v = .float .f64 b ∧ (Lit.float .f64 b).wf = true := by
  cases fuel with
  | zero => simp [DataW.trod] at h
  | succ n =>
    unfold DataW.trod at h
    rw [ht] at h
    split at h <;> simp_all
theorem cell_block {w : World} {a : Addr} {v : Value} (h : w.cell? a = some v) : a.block < w.heap.size := by
  by_cases c : a.block < w.heap.size
  · exact c
  · exfalso
    have : w.heap[a.block]? = none := by simp; omega
    simp [World.cell?, this] at h

/-- what the walk is told of the list: it is nil, or it leads to so many pairs of floats -/
def IsPairs (w : World) (a : Option Addr) (len cap : Nat) : Prop :=
  len = 0 ∨
  ∃ b off, a = some ⟨b, off, none⟩ ∧ b < w.heap.size ∧ len ≤ cap ∧ cap ≤ maxLen ∧
    ∀ i, i < len → ∃ x y, w.cell? ⟨b, off + i * 2, none⟩ = some (.float .f64 x) ∧ w.cell? ⟨b, off + i * 2 + 1, none⟩ = some (.float .f64 y) ∧ x < 18446744073709551616 ∧ y < 18446744073709551616

set_option maxHeartbeats 2000000 in
theorem walk (a0 : Option Addr) (len cap : Nat) (w : World) (h0 : IsPairs w a0 len cap) :
    Calls Try.prog 4 #[.slice a0 len cap] w fun e w' => e = .returned (.bool true) ∧ Below w.heap.size w w' := by
  have AW := hid awake_any
  rcases h0 with rfl | ⟨b, off, rfl, hb, hl, hm, hcells⟩
  · go_enter Try.func4, Try.ntmps4
    go_wp2_with fail
    refine (AW.out _).mono ?_
    rintro e w' ⟨rfl, n0, rfl⟩
    go_wp2
    go_loop [3] (fun iv => iv = .int .i64 0) (fun _ => 0)
    case atStart => rfl
    case round =>
      subst hrel
      go_wp2
      go_ret
      exact ⟨rfl, below_drewN (Below.refl _ _) _⟩
  · unfold maxLen at hm
    have HC := hid hcells
    clear hcells
    go_enter Try.func4, Try.ntmps4
    go_wp2_with fail
    refine (AW.out _).mono ?_
    rintro e w' ⟨rfl, n0, rfl⟩
    clear AW
    go_wp2
    go_loopw [3] (fun iv wr => ∃ k : Nat, k ≤ len ∧ iv = .int .i64 k ∧ Below w.heap.size w wr) (fun iv _ => len - (intOf iv).toNat)
    case atStart => exact ⟨0, Nat.zero_le _, rfl, below_drewN (Below.refl _ _) _⟩
    case round =>
      obtain ⟨k, hk, rfl, hbel⟩ := hrel
      by_cases hlt : k < len
      · obtain ⟨x, y, hx, hy, lx, ly⟩ := HC.out k hlt
        have cx : wr.cell? ⟨b, off + k * 2, none⟩ = some (.float .f64 x) := by rw [hbel.cell (p := ⟨b, off + k * 2, none⟩) hb]; exact hx
        have cy : wr.cell? ⟨b, off + k * 2 + 1, none⟩ = some (.float .f64 y) := by rw [hbel.cell (p := ⟨b, off + k * 2 + 1, none⟩) hb]; exact hy
        have HB := hid hbel
        obtain ⟨p, hp_⟩ : ∃ p, mulB x y = p := ⟨_, rfl⟩
        obtain ⟨d, hd_⟩ : ∃ d, prodE x y = d := ⟨_, rfl⟩
        obtain ⟨u, hu_⟩ : ∃ u, splitH x = u := ⟨_, rfl⟩
        obtain ⟨v, hv_⟩ : ∃ v, splitL x = v := ⟨_, rfl⟩
        have S1 := hid (fun w => prod_at x y p d w lx ly hp_ hd_)
        have S2 := hid (fun w => rprod_at x y p d w lx ly hp_ hd_)
        have S3 := hid (fun w => split_at x u v w lx hu_ hv_)
        have S4 := hid (fun w => rsplit_at x u v w lx hu_ hv_)
        have SR := hid same_refl
        clear hp_ hd_ hu_ hv_
        clear hx hy hbel lx ly
        go_wp2
        go_quiet ((go_at_call 13; exact Calls.quiet_of (S1.out _)))
        obtain ⟨W1, hW1⟩ : ∃ W, W = wr.drewN nq := ⟨_, rfl⟩
        replace cx : W1.cell? ⟨b, off + k * 2, none⟩ = some (.float .f64 x) := by rw [hW1, World.cell?_drewN]; exact cx
        replace cy : W1.cell? ⟨b, off + k * 2 + 1, none⟩ = some (.float .f64 y) := by rw [hW1, World.cell?_drewN]; exact cy
        replace HB : Hid (Below w.heap.size w W1) := by rw [hW1]; exact below_drewN HB.out _
        rw [← hW1]
        clear hW1 nq
        go_wp2
        go_quiet ((go_at_call 14; exact Calls.quiet_of (S2.out _)))
        obtain ⟨W2, hW2⟩ : ∃ W, W = W1.drewN nq := ⟨_, rfl⟩
        replace cx : W2.cell? ⟨b, off + k * 2, none⟩ = some (.float .f64 x) := by rw [hW2, World.cell?_drewN]; exact cx
        replace cy : W2.cell? ⟨b, off + k * 2 + 1, none⟩ = some (.float .f64 y) := by rw [hW2, World.cell?_drewN]; exact cy
        replace HB : Hid (Below w.heap.size w W2) := by rw [hW2]; exact below_drewN HB.out _
        rw [← hW2]
        clear hW2 nq
        go_wp2_with fail
        refine (S3.out _).mono ?_
        rintro e w' ⟨rfl, rfl⟩
        go_wp2_with fail
        refine (S4.out _).mono ?_
        rintro e w' ⟨rfl, rfl⟩
        go_wp2_with fail
        refine (SR.out _ _ _).mono ?_
        rintro e w' ⟨rfl, rfl⟩
        go_wp2_with fail
        refine (SR.out _ _ _).mono ?_
        rintro e w' ⟨rfl, rfl⟩
        go_wp2
        go_roundw
        case rel => exact ⟨k + 1, by omega, by go_num, HB.out⟩
        case measure => simp [intOf]; omega
      · go_wp2
        go_ret
        exact ⟨rfl, hbel⟩

set_option maxRecDepth 100000 in
theorem lifted (os : Os) (started : os.Started) (H : Type) (enc : TypeId × Value → H) :
    ReturnsInHanded {} Try.checked os 4 .any (Rows.twinProductsSpec.pre6 enc Try.prog Try.f4 Rows.twinProductsRow.domain false) (Rows.twinProductsSpec.post enc Try.prog Try.f4 false true false false) := by
  refine returnsInHanded_of_change (C := Try.checked) own started (by kernel_rfl) Try.func4
    (ChangeSpec.witness6 (enc := enc) (C := Try.checked) false ⟨#[], #[.slice none 0 0], []⟩ 8 (by kernel_rfl) (by kernel_rfl) (by kernel_rfl) (by kernel_rfl)) ?_
  intro W base args ds gs before hval0 hW hcnd _
  have hval : ∀ (j : Nat) t v, Try.f4.params[j]? = some t → args[j]? = some v → Value.okWide Try.prog W .any base t v := hval0
  have hW' := hW
  obtain ⟨p, q, hA0, hV, rfl, hfz, hnd⟩ := hW
  have hA : DataW.TrodAll enc Try.prog W 0 (fun _ => true) true Try.f4.params.toList args.toList ds p := hA0
  rw [Try.params4] at hA hval
  obtain ⟨v0, vs0, d0, ds0, p0, q0, hargs, rfl, rfl, h0, r0⟩ := trodAll_cons hA
  obtain ⟨rfl, rfl, rfl⟩ := trodAll_nil r0
  obtain rfl : args = #[v0] := by cases args; simp_all
  obtain ⟨rfl, rfl⟩ := trodVars_none hV
  obtain ⟨a0, len0, cap0, rfl⟩ := okWide_slice Try.underlying22 (hval 0 22 v0 rfl rfl)
  have k0 := h0
  have lt0 : ∀ x ∈ p0, x.block < W.heap.size := by obtain ⟨m, hm⟩ := k0; exact DataW.trod_lt m _ _ _ hm
  have w0 : IsPairs W a0 len0 cap0 := by
    obtain ⟨fuel, hf⟩ := h0
    rcases open_slice_pairs Try.underlying22 Try.underlying28 (by kernel_rfl) rfl rfl (by kernel_rfl) (by kernel_rfl) hf with ⟨hcs, _⟩ | ⟨x, l, c, m, n, V0, V1, D0, D1, P0, P1, hcs, _, hl, hm, hmm, _, hcell⟩
    · simp [Value.cells] at hcs
      obtain ⟨rfl, rfl, rfl⟩ := hcs
      exact .inl rfl
    · simp [Value.cells] at hcs
      obtain ⟨rfl, rfl, rfl⟩ := hcs
      by_cases z : len0 = 0
      · exact .inl z
      · obtain ⟨b, off, spot⟩ := x
        simp only [if_true] at hmm
        have h0' := hcell 0 (by omega)
        have hspot : spot = none := by simpa [Addr.add] using World.cell?_spot h0'.1
        subst hspot
        have hb : b < W.heap.size := cell_block h0'.1
        refine .inr ⟨b, off, rfl, hb, hl, hm, fun i hi => ?_⟩
        obtain ⟨g0, g1, t0, t1⟩ := hcell i (by omega)
        obtain ⟨x, e0, wx⟩ := trod_float Try.underlying24 t0
        obtain ⟨y, e1, wy⟩ := trod_float Try.underlying24 t1
        rw [e0] at g0
        rw [e1] at g1
        refine ⟨x, y, ?_, ?_, lit_lt wx, lit_lt wy⟩
        · by_cases c : i * 2 = 0
          · have : i = 0 := by omega
            subst this
            simpa [Addr.add] using g0
          · simpa [Addr.add, c] using g0
        · simpa [Addr.add, Nat.add_assoc] using g1
  clear hA0 hval0
  refine (walk a0 len0 cap0 W w0).mono fun e W' ⟨he, bel⟩ => ?_
  subst he
  exact ⟨_, rfl, _, _, _, [], _, [], hW', trodAll_mk1 (shut_bool Try.underlying4 _), (trodAll_cons_mk (Below.trod laidOut (by kernel_rfl) (of_decide_eq_true (by kernel_rfl)) k0 bel lt0) trodAll_mk0), rfl, bel.frame _, fun h => by cases h⟩

theorem over : Rows.twinProductsRow.holds Try.pinned (OpenSpec.ofChange Rows.twinProductsSpec) :=
  OpenClaim.holds_of_wide 4 Try.f4 rfl rfl rfl rfl rfl rfl rfl ⟨rfl, rfl, rfl, rfl, rfl⟩ rfl rfl rfl rfl rfl (by kernel_rfl) Try.func4 (by kernel_rfl)
    (of_decide_eq_true (by kernel_rfl)) (by unfold Func.isWrapper; first | (rw [if_pos (by decide +kernel)]; kernel_rfl) | (rw [if_neg (by decide +kernel)]; exact ⟨rfl, rfl⟩))
    (fun os started H enc _ => lifted os started H enc)

end Go.Proofs.Ytcamlhpehnfnlaa.twinProductsDone
namespace Go.Proofs.Ytcamlhpehnfnlaa
theorem twinProducts_holds : Rows.TwinProductsSaid := twinProductsDone.over
#print axioms twinProducts_holds
end Go.Proofs.Ytcamlhpehnfnlaa
