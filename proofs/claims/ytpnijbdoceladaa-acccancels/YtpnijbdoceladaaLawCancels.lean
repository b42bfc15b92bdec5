/-
  For every float and every two lists of floats, of any bits and any length that can lie in memory, the call of the statement on numbers and their opposites returns true and leaves the lists as they were.
-/
import Derived.Test.YtpnijbdoceladaaRows
import Derived.Test.YtpnijbdoceladaaHc
import Derived.ProofKit
import Derived.OpenShut
import Derived.WalkLawsBesides
import Derived.Below
import Derived.Deep.Slices
namespace Go.Proofs.Ytpnijbdoceladaa.accCancelsDone
open Go.ChangeShapes Go.WideShapes Go.ChangeAt Go.RowKit Go.Deep Tf

theorem own : ownKnob Try.prog.godebug = none := by kernel_rfl
theorem laidOut : laidOutB Try.prog = true := by kernel_rfl

theorem trod_float {H : Type} {enc : TypeId × Value → H} {P : Program} {w : World} {base : Nat} {spare : Nat → Bool} {held : Bool} {t : TypeId} {fuel : Nat} {v : Value} {x : DataW H × List MemPlace} (ht : P.underlying t = some (.float .f64)) (h : DataW.trod enc P w base spare held fuel t [v] = some x) :
    ∃ b, v = .float .f64 b ∧ (Lit.float .f64 b).wf = true := by
  cases fuel with
  | zero => simp [DataW.trod] at h
  | succ n =>
    unfold DataW.trod at h
    rw [ht] at h
    split at h <;> simp_all
theorem cell_block {w : World} {a : Addr} {v : Value} (h : w.cell? a = some v) : a.block < w.heap.size := by
  by_cases c : a.block < w.heap.size
  · exact c
  · exfalso
    have : w.heap[a.block]? = none := by simp; omega
    simp [World.cell?, this] at h

/-- what the walk is told of the list: it is nil, or it leads to so many floats -/
def IsFloats (w : World) (a : Option Addr) (len cap : Nat) : Prop :=
  len = 0 ∨
  ∃ b off, a = some ⟨b, off, none⟩ ∧ b < w.heap.size ∧ len ≤ cap ∧ cap ≤ maxLen ∧
    ∀ i, i < len → ∃ x, w.cell? ⟨b, off + i, none⟩ = some (.float .f64 x) ∧ x < 18446744073709551616

theorem add_off (b off j : Nat) : (⟨b, off, none⟩ : Addr).add j = ⟨b, off + j, none⟩ := by
  by_cases c : j = 0
  · subst c; simp [Addr.add]
  · simp [Addr.add, c]
theorem floats_open {H : Type} {enc : TypeId × Value → H} {W : World} {a0 : Option Addr} {len0 cap0 : Nat} {fuel : Nat} {x : DataW H × List MemPlace}
    (hf : DataW.trod enc Try.prog W 0 (fun _ => true) true fuel 43 [.slice a0 len0 cap0] = some x) : IsFloats W a0 len0 cap0 := by
  rcases open_slice1 Try.underlying43 (by kernel_rfl) hf with ⟨hcs, _⟩ | ⟨a, l, c, m, n, V, D, Pl, hcs, _, hl, hm, hmm, _, hx⟩
  · simp at hcs
    obtain ⟨rfl, rfl, rfl⟩ := hcs
    exact .inl rfl
  · simp at hcs
    obtain ⟨rfl, rfl, rfl⟩ := hcs
    by_cases z : len0 = 0
    · exact .inl z
    · simp only [if_true] at hmm
      have each : ∀ i, i < m → ∃ x : Nat, W.cell? (a.add i) = some (.float .f64 x) ∧ x < 18446744073709551616 := by
        intro i hi
        obtain ⟨h1, h2⟩ := hx i hi
        obtain ⟨x, e, wx⟩ := trod_float Try.underlying30 h2
        rw [e] at h1
        exact ⟨x, h1, lit_lt wx⟩
      obtain ⟨b, off, spot⟩ := a
      obtain ⟨x, c0, _⟩ := each 0 (by omega)
      have hspot : spot = none := by simpa [Addr.add] using World.cell?_spot c0
      subst hspot
      have hb : b < W.heap.size := by rw [add_off] at c0; exact cell_block c0
      refine .inr ⟨b, off, rfl, hb, hl, hm, fun i hi => ?_⟩
      have := each i (by omega)
      simpa only [add_off] using this


theorem floats_fn {w : World} {a : Option Addr} {len cap : Nat} (h : IsFloats w a len cap) : ∃ xs : Nat → Nat, IsFl w a len xs := by
  rcases h with h | ⟨b, off, rfl, hb, _, _, hc⟩
  · exact ⟨fun _ => 0, fun k hk => by omega⟩
  · have : ∀ i, ∃ x, i < len → w.cell? ⟨b, off + i, none⟩ = some (.float .f64 x) ∧ x < 18446744073709551616 := by
      intro i
      by_cases c : i < len
      · obtain ⟨x, h1⟩ := hc i c
        exact ⟨x, fun _ => h1⟩
      · exact ⟨0, fun h => absurd h c⟩
    exact ⟨fun i => (this i).choose, fun k hk => ⟨((this k).choose_spec hk).2, b, off, rfl, hb, ((this k).choose_spec hk).1⟩⟩

attribute [local go_sem] run_bits run_from raw_feq raw_fne raw_flt raw_fgt run_neg

set_option maxHeartbeats 4000000 in
theorem go_long (th len : Nat) (a1 a2 : Option Addr) (cap len2 cap2 : Nat) (w : World) (hl : 16384 < (len : Int)) :
    Calls Try.prog 6 #[.float .f64 th, .slice a1 len cap, .slice a2 len2 cap2] w fun e w' => e = .returned (.bool true) ∧ Below w.heap.size w w' := by
  have AW := hid awake_any
  go_enter Try.func6, Try.ntmps6
  go_wp2_with fail
  refine (AW.out _).mono ?_
  rintro e w1 ⟨rfl, b1⟩
  go_wp2
  go_ret
  exact ⟨rfl, b1.out⟩
set_option maxHeartbeats 4000000 in
theorem go_zero (th len : Nat) (a1 a2 : Option Addr) (cap len2 cap2 : Nat) (w : World) (hl : (len : Int) ≤ 16384) (hz : feq th 0 = true) :
    Calls Try.prog 6 #[.float .f64 th, .slice a1 len cap, .slice a2 len2 cap2] w fun e w' => e = .returned (.bool true) ∧ Below w.heap.size w w' := by
  have AW := hid awake_any
  go_enter Try.func6, Try.ntmps6
  go_wp2_with fail
  refine (AW.out _).mono ?_
  rintro e w1 ⟨rfl, b1⟩
  go_wp2
  go_ret
  exact ⟨rfl, b1.out⟩
set_option maxHeartbeats 4000000 in
theorem go_wild (th len : Nat) (a1 a2 : Option Addr) (cap len2 cap2 : Nat) (w : World) (hl : (len : Int) ≤ 16384) (hz : feq th 0 = false) (hs : Ieee.double.sub th th = none) :
    Calls Try.prog 6 #[.float .f64 th, .slice a1 len cap, .slice a2 len2 cap2] w fun e w' => e = .returned (.bool true) ∧ Below w.heap.size w w' := by
  have AW := hid awake_any
  have sy := fun (ty : TypeId) (w : World) => run_nan_sub (P := Try.prog) w ty th th hs
  have ny := fun (w : World) => feq_nan (nanOf w th th) 0 (.inl (isN_nanOf w th th))
  clear hs
  go_enter Try.func6, Try.ntmps6
  go_wp2_with fail
  refine (AW.out _).mono ?_
  rintro e w1 ⟨rfl, b1⟩
  go_wp2
  go_ret
  exact ⟨rfl, b1.out.drew⟩
theorem walk (th : Nat) (a1 a2 : Option Addr) (len cap len2 cap2 : Nat) (w : World) (hth : th < 18446744073709551616) (h1 : IsFloats w a1 len cap) (h2 : IsFloats w a2 len2 cap2) :
    Calls Try.prog 6 #[.float .f64 th, .slice a1 len cap, .slice a2 len2 cap2] w fun e w' => e = .returned (.bool true) ∧ Below w.heap.size w w' := by
  obtain ⟨xs, hxs⟩ := floats_fn h1
  obtain ⟨ys, hys⟩ := floats_fn h2
  by_cases c : len ≤ 16384
  · by_cases z : mg th = 0
    · exact go_zero th len a1 a2 cap len2 cap2 w (by omega) (by rw [feq_zero th hth]; exact decide_eq_true z)
    · by_cases f : mg th < 9218868437227405312
      · exact walk_go th a1 a2 len cap len2 cap2 xs ys w hth z f c (by omega) hxs hys
      · exact go_wild th len a1 a2 cap len2 cap2 w (by omega) (by rw [feq_zero th hth]; exact decide_eq_false z) (sub_out th f)
  · exact go_long th len a1 a2 cap len2 cap2 w (by omega)

set_option maxRecDepth 100000 in
theorem lifted (os : Os) (started : os.Started) (H : Type) (enc : TypeId × Value → H) :
    ReturnsInHanded {} Try.checked os 6 .any (Rows.accCancelsSpec.pre6 enc Try.prog Try.f6 Rows.accCancelsRow.domain false) (Rows.accCancelsSpec.post enc Try.prog Try.f6 false true false false) := by
  refine returnsInHanded_of_change (C := Try.checked) own started (by kernel_rfl) Try.func6
    (ChangeSpec.witness6 (enc := enc) (C := Try.checked) false ⟨#[], #[.float .f64 0, .slice none 0 0, .slice none 0 0], []⟩ 8 (by kernel_rfl) (by kernel_rfl) (by kernel_rfl) (by kernel_rfl)) ?_
  intro W base args ds gs before hval0 hW hcnd _
  have hval : ∀ (j : Nat) t v, Try.f6.params[j]? = some t → args[j]? = some v → Value.okWide Try.prog W .any base t v := hval0
  have hW' := hW
  obtain ⟨p, q, hA0, hV, rfl, hfz, hnd⟩ := hW
  have hA : DataW.TrodAll enc Try.prog W 0 (fun _ => true) true Try.f6.params.toList args.toList ds p := hA0
  rw [Try.params6] at hA hval
  obtain ⟨v0, vs0, d0, ds0, p0, q0, hargs, rfl, rfl, h0, r0⟩ := trodAll_cons hA
  obtain ⟨v1, vs1, d1, ds1, p1, q1, rfl, rfl, rfl, h1, r1⟩ := trodAll_cons r0
  obtain ⟨v2, vs2, d2, ds2, p2, q2, rfl, rfl, rfl, h2, r2⟩ := trodAll_cons r1
  obtain ⟨rfl, rfl, rfl⟩ := trodAll_nil r2
  obtain rfl : args = #[v0, v1, v2] := by cases args; simp_all
  obtain ⟨rfl, rfl⟩ := trodVars_none hV
  obtain ⟨a0, rfl, rfl, rfl, w0⟩ := open_float Try.underlying30 (hval 0 30 v0 rfl rfl) h0
  obtain ⟨a1, len1, cap1, rfl⟩ := okWide_slice Try.underlying43 (hval 1 43 v1 rfl rfl)
  have k1 := h1
  have lt1 : ∀ x ∈ p1, x.block < W.heap.size := by obtain ⟨m, hm⟩ := k1; exact DataW.trod_lt m _ _ _ hm
  have w1 : IsFloats W a1 len1 cap1 := by
    obtain ⟨fuel, hf⟩ := h1
    exact floats_open hf
  obtain ⟨a2, len2, cap2, rfl⟩ := okWide_slice Try.underlying43 (hval 2 43 v2 rfl rfl)
  have k2 := h2
  have lt2 : ∀ x ∈ p2, x.block < W.heap.size := by obtain ⟨m, hm⟩ := k2; exact DataW.trod_lt m _ _ _ hm
  have w2 : IsFloats W a2 len2 cap2 := by
    obtain ⟨fuel, hf⟩ := h2
    exact floats_open hf
  clear hA0 hval0
  refine (walk a0 a1 a2 len1 cap1 len2 cap2 W (lit_lt w0) w1 w2).mono fun e W' ⟨he, bel⟩ => ?_
  subst he
  exact ⟨_, rfl, _, _, _, [], _, [], hW', trodAll_mk1 (shut_bool Try.underlying4 _), (trodAll_cons_mk (shut_float Try.underlying30 w0) (trodAll_cons_mk (Below.trod laidOut (by kernel_rfl) (of_decide_eq_true (by kernel_rfl)) k1 bel lt1) (trodAll_cons_mk (Below.trod laidOut (by kernel_rfl) (of_decide_eq_true (by kernel_rfl)) k2 bel lt2) trodAll_mk0))), rfl, bel.frame _, fun h => by cases h⟩

theorem over : Rows.accCancelsRow.holds Try.pinned (OpenSpec.ofChange Rows.accCancelsSpec) :=
  OpenClaim.holds_of_wide 6 Try.f6 rfl rfl rfl rfl rfl rfl rfl ⟨rfl, rfl, rfl, rfl, rfl⟩ rfl rfl rfl rfl rfl (by kernel_rfl) Try.func6 (by kernel_rfl)
    (of_decide_eq_true (by kernel_rfl)) (by unfold Func.isWrapper; first | (rw [if_pos (by decide +kernel)]; kernel_rfl) | (rw [if_neg (by decide +kernel)]; exact ⟨rfl, rfl⟩))
    (fun os started H enc _ => lifted os started H enc)

end Go.Proofs.Ytpnijbdoceladaa.accCancelsDone
namespace Go.Proofs.Ytpnijbdoceladaa
theorem accCancels_holds : Rows.AccCancelsSaid := accCancelsDone.over
#print axioms accCancels_holds
end Go.Proofs.Ytpnijbdoceladaa
