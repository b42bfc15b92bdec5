/-
  The reference: Sum.
-/
import Derived.Test.YtgbnabpbheebjaaRh
namespace Go.Proofs.Ytgbnabpbheebjaa
open Go.RowKit Tf
theorem sumS_zero (xs : Nat → Nat) (k : Nat) : (sumS xs k).c = 0 → sumS xs k = S0 := by
  intro h
  rw [sumS_c] at h
  have : k = 0 := by omega
  subst this; rfl
set_option maxHeartbeats 4000000 in
theorem rsum_go (a0 : Option Addr) (len cap : Nat) (xs : Nat → Nat) (y : Nat) (w : World) (hl : Hid (len ≤ 1048576)) (hl2 : (len : Int) ≤ 1048576) (hxs : Hid (∀ k, k < len → xs k < 18446744073709551616))
    (hc : Hid (∀ wr : World, Below w.heap.size w wr → ∀ k, k < len → ∃ b o, a0 = some ⟨b, o, none⟩ ∧ wr.cell? ⟨b, o + k, none⟩ = some (.float .f64 (xs k))))
    (V : Hid (∀ wr, IsRef w.heap.size (sumS xs len) wr → Calls Try.prog 22 #[.pointer (some ⟨w.heap.size, 0, none⟩)] wr fun e w' => e = .returned (.float .f64 y) ∧ Below wr.heap.size wr w')) :
    Calls Try.prog 24 #[.slice a0 len cap] w fun e w' => e = .returned (.tuple #[.float .f64 y, .int .i64 0]) ∧ Hid (Below w.heap.size w w') := by
  go_enter Try.func24, Try.ntmps24
  go_wp2_with fail
  refine (rnew_go _).mono ?_
  rintro e w' ⟨rfl, rfl⟩
  go_wp2
  go_loopw [5] (fun kv wr => ∃ k : Nat, k ≤ len ∧ kv = .int .i64 (k : Nat) ∧ IsRef w.heap.size (sumS xs k) wr ∧ Below w.heap.size w wr) (fun kv _ => len - (intOf kv).toNat)
  case atStart => exact ⟨0, by omega, rfl, ref0 w, (Below.refl _ _).alloc (by omega) _⟩
  case round =>
    obtain ⟨k, hk, rfl, r1, hb⟩ := hrel
    have hl' := hl.out
    by_cases hlt : k < len
    · obtain ⟨b, o, ha, cn⟩ := hc.out wr hb k hlt
      subst ha
      have A := hid (radd_at w.heap.size (xs k) (sumS xs k) wr (hxs.out k hlt) r1 (sumS_good xs k (by omega)) (by rw [sumS_c]; omega))
      obtain ⟨x, hx⟩ : ∃ x, xs k = x := ⟨_, rfl⟩
      rw [hx] at cn A
      have HX := hid hx
      have HB := hid hb
      have HL := hid hlt
      have kl : ((k : Nat) : Int) < len := by omega
      have k2 : ((k : Nat) : Int) < 1048576 := by omega
      clear hx hb hlt hk r1 hc V hxs
      go_wp2_with fail
      refine A.out.mono ?_
      rintro e w' ⟨rfl, p1, p2⟩
      go_wp2
      refine ⟨⟨k + 1, HL.out, by simp, ?_, ?_⟩, by have := HL.out; simp [intOf]; omega⟩
      · show IsRef _ (stepA (sumS xs k) (xs k)) _
        rw [HX.out]; exact p1.out
      · exact HB.out.trans (p2.out.but.below (by omega) HB.out.size)
    · have e : k = len := by omega
      subst e
      have kl : decide (((k : Nat) : Int) < (k : Nat)) = false := by simp
      have V' := hid (V.out wr r1)
      have HB := hid hb
      clear hb hlt hk r1 hc V hxs
      go_wp2_with fail
      refine V'.out.mono ?_
      rintro e w' ⟨rfl, p1⟩
      have HB2 : Hid (Below w.heap.size w w') := HB.out.trans (p1.mono HB.out.size)
      clear p1
      go_wp2
      go_ret2
      exact ⟨rfl, HB2⟩
/-- SUM -/
theorem rsum_at (a0 : Option Addr) (len cap : Nat) (xs : Nat → Nat) (w : World) (hl : len ≤ 1048576) (h : IsFl w a0 len xs) :
    Calls Try.prog 24 #[.slice a0 len cap] w fun e w' => e = .returned (.tuple #[.float .f64 (valB (sumS xs len)), .int .i64 0]) ∧ Hid (Below w.heap.size w w') := by
  refine rsum_go a0 len cap xs _ w hl (by omega) (fun k hk => (h k hk).1) ?_ (fun wr hr => ?_)
  · intro wr hb k hk
    obtain ⟨h1, b, o, h2, h3, h4⟩ := h k hk
    exact ⟨b, o, h2, by rw [hb.cell (p := ⟨b, o + k, none⟩) h3]; exact h4⟩
  · have g := sumS_good xs len hl
    exact rvalue_at _ _ wr hr g (sumS_zero xs len)
end Go.Proofs.Ytgbnabpbheebjaa
