/-
  The reference: Value as a contract.
-/
import Derived.Test.YtgbnabpbheebjaaRg
namespace Go.Proofs.Ytgbnabpbheebjaa
open Go.RowKit Tf

theorem TPBW : 1048576 * BW * 268435456 < ((2 ^ TP : Nat) : Int) := by decide +kernel
theorem valB_S0 : valB S0 = 0 := by decide +kernel
theorem rung_V (V : Int) (U : Nat) (hU : U = (if (V * 268435456).natAbs.log2 - 52 < 1102 then 1102 else (V * 268435456).natAbs.log2 - 52)) :
    rung 52 K V.natAbs = (U - 1102) * 4503599627370496 + rne (V * 268435456).natAbs (2 ^ U) := by
  have e : (V * 268435456).natAbs = V.natAbs * 2 ^ 28 := by rw [Int.natAbs_mul]; rfl
  rw [← rung_scale 52 K 28 V.natAbs, ← e]
  generalize (V * 268435456).natAbs = M at *
  unfold rung
  have e1 : M.log2 - (52 + (K + 28)) = U - 1102 := by unfold K; split at hU <;> omega
  have e2 : M.log2 - (52 + (K + 28)) + (K + 28) = U := by unfold K; split at hU <;> omega
  rw [e1] at e2 ⊢
  rw [e2]
theorem canon_rv (V : Int) : canonB (rv V) = if V < 0 then (if rung 52 K V.natAbs = 0 then 0 else 9223372036854775808 + min (rung 52 K V.natAbs) 9218868437227405312) else min (rung 52 K V.natAbs) 9218868437227405312 := by
  unfold rv
  generalize rung 52 K V.natAbs = R
  unfold canonB isN mg quiet
  repeat' split
  all_goals first | omega | simp_all <;> omega
/-- VALUE of the reference -/
theorem rvalue_at (g : Nat) (S : AS) (w : World) (h : IsRef g S w) (hS : Good S) (hz : S.c = 0 → S = S0) :
    Calls Try.prog 22 #[.pointer (some ⟨g, 0, none⟩)] w fun e w' => e = .returned (.float .f64 (valB S)) ∧ Below w.heap.size w w' := by
  obtain ⟨f, hR, hv, hl⟩ := h
  have c0 := hS.c0
  have kc := hR.cc
  have kp := hR.cp
  have kq := hR.cq
  have kr := hR.cr
  have ko := hR.co
  have same : ∀ (x : Nat), (Calls Try.prog 22 #[.pointer (some ⟨g, 0, none⟩)] w fun e w' => e = .returned (.float .f64 x) ∧ w' = w) → valB S = x → Calls Try.prog 22 #[.pointer (some ⟨g, 0, none⟩)] w fun e w' => e = .returned (.float .f64 (valB S)) ∧ Below w.heap.size w w' := by
    intro x hx e
    refine hx.mono ?_
    rintro e' w' ⟨q1, rfl⟩
    rw [e]; exact ⟨q1, Below.refl _ _⟩
  by_cases hc0 : S.c = 0
  · rw [hc0] at kc
    exact same _ (rv_zero g w kc) (by rw [hz hc0, valB_S0])
  have hc : 0 < S.c := by omega
  cases er : S.r
  · rw [er] at kr
    cases ep : S.p
    · rw [ep] at kp
      cases eq : S.q
      · rw [eq] at kq
        by_cases c : S.n = S.c
        · have : decide (S.n ≠ S.c) = false := decide_eq_false (fun x => x c)
          rw [this] at ko
          exact same _ (rv_nought g S.c w kc hc kr kp kq ko) (by unfold valB; rw [er, ep, eq, if_neg (by decide), if_neg (by decide), if_neg (by decide), if_pos ⟨hc, c⟩])
        · have hd : decide (S.n ≠ S.c) = true := decide_eq_true c
          rw [hd] at ko
          have hval : valB S = canonB (rv S.V) := by unfold valB; rw [er, ep, eq, if_neg (by decide), if_neg (by decide), if_neg (by decide), if_neg (fun x => c x.2)]
          rw [hval, canon_rv]
          have hl56 : Lim f 72057594037927936 := hl.more (by have := hS.c1; omega)
          have hcar := carried_at g f S.c S.p S.q S.r _ w hR hl56
          rw [hv] at hcar
          have hM : (S.V * 268435456).natAbs < 2 ^ TP := by
            have h1 : S.c * BW ≤ 1048576 * BW := Int.mul_le_mul_of_nonneg_right hS.c1 (Int.le_of_lt BW_pos)
            have h2 := hS.v0
            have h3 := hS.v1
            have h4 := TPBW
            generalize 2 ^ TP = z at *
            generalize BW = b at *
            generalize S.c * b = cb at *
            omega
          refine rv_sum g S.c (S.V * 268435456).natAbs (decide (S.V * 268435456 < 0)) _ w kc hc kr kp kq ko (hid hcar) (hid hM) (hid ?_) (hid ?_)
          · intro h0
            have : S.V = 0 := by omega
            rw [this]
            decide +kernel
          · intro U _ hU u hu B KK hB hK hr
            have hg := rung_V S.V U hU
            have hU2 : 1102 ≤ U := by split at hU <;> omega
            rw [hr] at hg
            have hB2 : B = ((rung 52 K S.V.natAbs : Nat) : Int) := by
              rw [hg]
              omega
            generalize rung 52 K S.V.natAbs = R at *
            clear hr hg hM hcar
            refine ⟨fun big => ⟨fun hn => ?_, fun hn => ?_⟩, fun small => ⟨fun hn => ?_, fun hn => ⟨fun hz0 => ?_, fun hp => ?_⟩⟩⟩
            · have := of_decide_eq_false hn
              rw [if_neg (by omega)]; omega
            · have := of_decide_eq_true hn
              rw [if_pos (by omega), if_neg (by omega)]; omega
            · have := of_decide_eq_false hn
              rw [if_neg (by omega)]; omega
            · have := of_decide_eq_true hn
              rw [if_pos (by omega), if_pos (by omega)]; omega
            · have := of_decide_eq_true hn
              rw [if_pos (by omega), if_neg (by omega)]; omega
      · rw [eq] at kq
        exact same _ (rv_minus g S.c w kc hc kr kp kq) (by unfold valB; rw [er, ep, eq]; rfl)
    · rw [ep] at kp
      cases eq : S.q
      · rw [eq] at kq
        exact same _ (rv_plus g S.c w kc hc kr kp kq) (by unfold valB; rw [er, ep, eq]; rfl)
      · rw [eq] at kq
        exact same _ (rv_both g S.c w kc hc kr kp kq) (by unfold valB; rw [er, ep, eq]; rfl)
  · rw [er] at kr
    exact same _ (rv_nan g S.c w kc hc kr) (by unfold valB; rw [er]; rfl)
end Go.Proofs.Ytgbnabpbheebjaa
