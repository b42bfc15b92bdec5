/-
  For every float, of any bits, the call of the statement on two halves returns true and leaves its argument as it was.
-/
import Derived.Test.YtcamlhpehnfnlaaRows
import Derived.Test.YtcamlhpehnfnlaaVf
import Derived.ProofKit
import Derived.OpenShut
import Derived.WalkLawsBesides
import Derived.Below
namespace Go.Proofs.Ytcamlhpehnfnlaa.twinHalvesDone
open Go.ChangeShapes Go.WideShapes Go.ChangeAt Go.RowKit

theorem own : ownKnob Try.prog.godebug = none := by kernel_rfl

open Tf
attribute [local go_sem] run_bits run_from raw_feq raw_fne raw_flt raw_fgt run_neg

/-- a number of few bits -/
def Few (m : Nat) : Prop := ∃ q c, m = q * 2 ^ c ∧ q ≤ 67108864
theorem few_of (m A B e : Nat) (h : m * 2 ^ A = e * 2 ^ B) (he : e ≤ 67108864) : Few m := by
  by_cases c : A ≤ B
  · refine ⟨e, B - A, ?_, he⟩
    apply Nat.eq_of_mul_eq_mul_right (pow_pos A)
    rw [h, Nat.mul_assoc, ← Nat.pow_add, Nat.sub_add_cancel c]
  · have h2 : m * 2 ^ (A - B) = e := by
      apply Nat.eq_of_mul_eq_mul_right (pow_pos B)
      rw [← h, Nat.mul_assoc, ← Nat.pow_add, Nat.sub_add_cancel (by omega)]
    refine ⟨m, 0, by simp, ?_⟩
    have := Nat.le_mul_of_pos_right m (pow_pos (A - B))
    omega
theorem few_half (m : Nat) (h : Few m) (he : m % 2 = 0) : Few (m / 2) := by
  obtain ⟨q, c, e, hq⟩ := h
  cases c with
  | zero => exact ⟨q / 2, 0, by rw [e]; simp, by omega⟩
  | succ c =>
    refine ⟨q, c, ?_, hq⟩
    rw [e, Nat.pow_succ, ← Nat.mul_assoc, Nat.mul_div_cancel _ (by omega)]
theorem few_odd (m : Nat) (h : Few m) (ho : m = 0 ∨ m % 2 = 1) : m < 67108864 := by
  obtain ⟨q, c, e, hq⟩ := h
  rcases ho with h0 | h1
  · omega
  · cases c with
    | zero => rw [Nat.pow_zero, Nat.mul_one] at e; omega
    | succ c =>
      exfalso
      rw [e, Nat.pow_succ, ← Nat.mul_assoc, Nat.mul_mod_left] at h1
      omega
set_option maxHeartbeats 1000000 in
theorem short_go (x : Nat) (z : Bool) (m0 : Nat) (E : Int) (w : World) (P : Hid (∀ w, Calls Try.prog 45 #[.float .f64 x] w fun e w' => e = .returned (.tuple #[.bool z, .int .u64 ((m0 : Nat) : Int), .int .i64 E]) ∧ w' = w)) (hl : Hid (m0 < 9007199254740992)) (hf : Hid (Few m0)) :
    Calls Try.prog 26 #[.float .f64 x] w fun e w' => e = .returned (.bool true) ∧ w' = w := by
  go_enter Try.func26, Try.ntmps26
  go_wp2_with fail
  refine (P.out _).mono ?_
  rintro e w' ⟨rfl, rfl⟩
  go_wp2
  go_loop [4] (fun mv => ∃ m : Nat, mv = .int .u64 ((m : Nat) : Int) ∧ Hid (m < 9007199254740992) ∧ Hid (Few m)) (fun mv => (intOf mv).toNat)
  case atStart => exact ⟨m0, rfl, hl, hf⟩
  case round =>
    obtain ⟨m, rfl, h1, h2⟩ := hrel
    by_cases c0 : m = 0
    · subst c0
      go_wp2
      go_ret
      exact ⟨rfl, rfl⟩
    · by_cases c1 : m % 2 = 0
      · have F2 := hid (few_half m h2.out c1)
        have L2 : Hid (m / 2 < 9007199254740992) := by have := h1.out; show m / 2 < _; omega
        obtain ⟨M, hM⟩ : ∃ M : Int, ((m : Nat) : Int) = M := ⟨_, rfl⟩
        have b0 : 0 < M := by omega
        have b1 : M < 9007199254740992 := by have := h1.out; omega
        have b2 : M % 2 = 0 := by omega
        have b3 := hid (show M / 2 = ((m / 2 : Nat) : Int) by omega)
        have HM := hid hM
        rw [hM]
        clear h1 h2 c0 c1 hM
        go_wp2
        go_round
        case rel => exact ⟨m / 2, by rw [b3.out], L2, F2⟩
        case measure => simp [intOf]; omega
      · have lt := few_odd m h2.out (.inr (by omega))
        obtain ⟨M, hM⟩ : ∃ M : Int, ((m : Nat) : Int) = M := ⟨_, rfl⟩
        have b0 : 0 < M := by omega
        have b1 : M < 67108864 := by omega
        have b2 : M % 2 = 1 := by omega
        rw [hM]
        clear h1 h2 c0 c1 hM lt
        go_wp2
        go_ret
        exact ⟨rfl, rfl⟩

set_option maxHeartbeats 2000000 in
theorem go_yes (x h l nx : Nat) (w : World) (SP : Hid (∀ w, Calls Try.prog 15 #[.float .f64 x] w fun e w' => e = .returned (.tuple #[.float .f64 h, .float .f64 l]) ∧ w' = w))
    (PH : Hid (∀ w, Calls Try.prog 19 #[.float .f64 h] w fun e w' => e = .returned (.bool true) ∧ w' = w)) (PL : Hid (∀ w, Calls Try.prog 19 #[.float .f64 l] w fun e w' => e = .returned (.bool true) ∧ w' = w)) (FI : Hid (∀ w, Calls Try.prog 22 #[.float .f64 x] w fun e w' => e = .returned (.bool true) ∧ w' = w))
    (g1 : fgt x 9092767647661031424 = false) (hn : Op.negFloat .f64 x = nx) (g2 : fgt nx 9092767647661031424 = false) (EQ : Hid (∀ w, Calls Try.prog 24 #[.float .f64 x, .float .f64 0, .float .f64 h, .float .f64 l] w fun e w' => e = .returned (.bool true) ∧ Below w.heap.size w w')) (S1 : Hid (∀ w, Calls Try.prog 26 #[.float .f64 h] w fun e w' => e = .returned (.bool true) ∧ w' = w)) (S2 : Hid (∀ w, Calls Try.prog 26 #[.float .f64 l] w fun e w' => e = .returned (.bool true) ∧ w' = w)) :
    Calls Try.prog 7 #[.float .f64 x] w fun e w' => e = .returned (.bool true) ∧ Below w.heap.size w w' := by
  have A := hid awake_any
  have SR := hid rawSame_refl
  have RB := hid rawBits_any
  have FR : Hid (∀ w, Calls Try.prog 25 #[.int .u64 9092767647661031424] w fun e w' => e = .returned (.float .f64 9092767647661031424) ∧ w' = w) := fun w => from_any 9092767647661031424 w
  go_enter Try.func7, Try.ntmps7
  go_wp2_with fail
  refine (A.out _).mono ?_
  rintro e w' ⟨rfl, k, rfl⟩
  go_wp2_with fail
  refine (SP.out _).mono ?_
  rintro e w' ⟨rfl, rfl⟩
  go_wp2_with fail
  refine (PH.out _).mono ?_
  rintro e w' ⟨rfl, rfl⟩
  go_wp2_with fail
  refine (PL.out _).mono ?_
  rintro e w' ⟨rfl, rfl⟩
  go_wp2_with fail
  refine (FI.out _).mono ?_
  rintro e w' ⟨rfl, rfl⟩
  go_wp2_with fail
  refine (FR.out _).mono ?_
  rintro e w' ⟨rfl, rfl⟩
  go_wp2_with fail
  refine (FR.out _).mono ?_
  rintro e w' ⟨rfl, rfl⟩
  go_wp2_with fail
  refine (EQ.out _).mono ?_
  rintro e w' ⟨rfl, hb⟩
  have HB := hid hb
  clear hb
  go_wp2_with fail
  refine (S1.out _).mono ?_
  rintro e w' ⟨rfl, rfl⟩
  go_wp2_with fail
  refine (S2.out _).mono ?_
  rintro e w' ⟨rfl, rfl⟩
  go_wp2
  go_ret
  exact ⟨rfl, (below_drewN (Below.refl _ _) _).trans HB.out⟩

set_option maxHeartbeats 2000000 in
theorem go_nf (x h l : Nat) (w : World) (SP : Hid (∀ w, Calls Try.prog 15 #[.float .f64 x] w fun e w' => e = .returned (.tuple #[.float .f64 h, .float .f64 l]) ∧ w' = w))
    (PH : Hid (∀ w, Calls Try.prog 19 #[.float .f64 h] w fun e w' => e = .returned (.bool true) ∧ w' = w)) (PL : Hid (∀ w, Calls Try.prog 19 #[.float .f64 l] w fun e w' => e = .returned (.bool true) ∧ w' = w)) (FI : Hid (∀ w, Calls Try.prog 22 #[.float .f64 x] w fun e w' => e = .returned (.bool false) ∧ w' = w))
    (CN : Hid (∀ w, Calls Try.prog 21 #[.float .f64 x] w fun e w' => e = .returned (.float .f64 h) ∧ w' = w)) (hl : l = 0) :
    Calls Try.prog 7 #[.float .f64 x] w fun e w' => e = .returned (.bool true) ∧ Below w.heap.size w w' := by
  have A := hid awake_any
  have SR := hid rawSame_refl
  have RB := hid rawBits_any
  have FR : Hid (∀ w, Calls Try.prog 25 #[.int .u64 9092767647661031424] w fun e w' => e = .returned (.float .f64 9092767647661031424) ∧ w' = w) := fun w => from_any 9092767647661031424 w
  subst hl
  go_enter Try.func7, Try.ntmps7
  go_wp2_with fail
  refine (A.out _).mono ?_
  rintro e w' ⟨rfl, k, rfl⟩
  go_wp2_with fail
  refine (SP.out _).mono ?_
  rintro e w' ⟨rfl, rfl⟩
  go_wp2_with fail
  refine (PH.out _).mono ?_
  rintro e w' ⟨rfl, rfl⟩
  go_wp2_with fail
  refine (PL.out _).mono ?_
  rintro e w' ⟨rfl, rfl⟩
  go_wp2_with fail
  refine (FI.out _).mono ?_
  rintro e w' ⟨rfl, rfl⟩
  go_wp2_with fail
  refine (CN.out _).mono ?_
  rintro e w' ⟨rfl, rfl⟩
  go_wp2_with fail
  refine (SR.out _ _).mono ?_
  rintro e w' ⟨rfl, rfl⟩
  go_wp2_with fail
  refine (RB.out _ _).mono ?_
  rintro e w' ⟨rfl, rfl⟩
  go_wp2
  go_ret
  exact ⟨rfl, below_drewN (Below.refl _ _) _⟩

set_option maxHeartbeats 2000000 in
theorem go_pos (x h l : Nat) (w : World) (SP : Hid (∀ w, Calls Try.prog 15 #[.float .f64 x] w fun e w' => e = .returned (.tuple #[.float .f64 h, .float .f64 l]) ∧ w' = w))
    (PH : Hid (∀ w, Calls Try.prog 19 #[.float .f64 h] w fun e w' => e = .returned (.bool true) ∧ w' = w)) (PL : Hid (∀ w, Calls Try.prog 19 #[.float .f64 l] w fun e w' => e = .returned (.bool true) ∧ w' = w)) (FI : Hid (∀ w, Calls Try.prog 22 #[.float .f64 x] w fun e w' => e = .returned (.bool true) ∧ w' = w))
    (g1 : fgt x 9092767647661031424 = true) (CN : Hid (∀ w, Calls Try.prog 21 #[.float .f64 x] w fun e w' => e = .returned (.float .f64 h) ∧ w' = w)) (hl : l = 0) :
    Calls Try.prog 7 #[.float .f64 x] w fun e w' => e = .returned (.bool true) ∧ Below w.heap.size w w' := by
  have A := hid awake_any
  have SR := hid rawSame_refl
  have RB := hid rawBits_any
  have FR : Hid (∀ w, Calls Try.prog 25 #[.int .u64 9092767647661031424] w fun e w' => e = .returned (.float .f64 9092767647661031424) ∧ w' = w) := fun w => from_any 9092767647661031424 w
  subst hl
  go_enter Try.func7, Try.ntmps7
  go_wp2_with fail
  refine (A.out _).mono ?_
  rintro e w' ⟨rfl, k, rfl⟩
  go_wp2_with fail
  refine (SP.out _).mono ?_
  rintro e w' ⟨rfl, rfl⟩
  go_wp2_with fail
  refine (PH.out _).mono ?_
  rintro e w' ⟨rfl, rfl⟩
  go_wp2_with fail
  refine (PL.out _).mono ?_
  rintro e w' ⟨rfl, rfl⟩
  go_wp2_with fail
  refine (FI.out _).mono ?_
  rintro e w' ⟨rfl, rfl⟩
  go_wp2_with fail
  refine (FR.out _).mono ?_
  rintro e w' ⟨rfl, rfl⟩
  go_wp2_with fail
  refine (CN.out _).mono ?_
  rintro e w' ⟨rfl, rfl⟩
  go_wp2_with fail
  refine (SR.out _ _).mono ?_
  rintro e w' ⟨rfl, rfl⟩
  go_wp2_with fail
  refine (RB.out _ _).mono ?_
  rintro e w' ⟨rfl, rfl⟩
  go_wp2
  go_ret
  exact ⟨rfl, below_drewN (Below.refl _ _) _⟩

set_option maxHeartbeats 2000000 in
theorem go_neg (x h l nx : Nat) (w : World) (SP : Hid (∀ w, Calls Try.prog 15 #[.float .f64 x] w fun e w' => e = .returned (.tuple #[.float .f64 h, .float .f64 l]) ∧ w' = w))
    (PH : Hid (∀ w, Calls Try.prog 19 #[.float .f64 h] w fun e w' => e = .returned (.bool true) ∧ w' = w)) (PL : Hid (∀ w, Calls Try.prog 19 #[.float .f64 l] w fun e w' => e = .returned (.bool true) ∧ w' = w)) (FI : Hid (∀ w, Calls Try.prog 22 #[.float .f64 x] w fun e w' => e = .returned (.bool true) ∧ w' = w))
    (g1 : fgt x 9092767647661031424 = false) (hn : Op.negFloat .f64 x = nx) (g2 : fgt nx 9092767647661031424 = true) (CN : Hid (∀ w, Calls Try.prog 21 #[.float .f64 x] w fun e w' => e = .returned (.float .f64 h) ∧ w' = w)) (hl : l = 0) :
    Calls Try.prog 7 #[.float .f64 x] w fun e w' => e = .returned (.bool true) ∧ Below w.heap.size w w' := by
  have A := hid awake_any
  have SR := hid rawSame_refl
  have RB := hid rawBits_any
  have FR : Hid (∀ w, Calls Try.prog 25 #[.int .u64 9092767647661031424] w fun e w' => e = .returned (.float .f64 9092767647661031424) ∧ w' = w) := fun w => from_any 9092767647661031424 w
  subst hl
  go_enter Try.func7, Try.ntmps7
  go_wp2_with fail
  refine (A.out _).mono ?_
  rintro e w' ⟨rfl, k, rfl⟩
  go_wp2_with fail
  refine (SP.out _).mono ?_
  rintro e w' ⟨rfl, rfl⟩
  go_wp2_with fail
  refine (PH.out _).mono ?_
  rintro e w' ⟨rfl, rfl⟩
  go_wp2_with fail
  refine (PL.out _).mono ?_
  rintro e w' ⟨rfl, rfl⟩
  go_wp2_with fail
  refine (FI.out _).mono ?_
  rintro e w' ⟨rfl, rfl⟩
  go_wp2_with fail
  refine (FR.out _).mono ?_
  rintro e w' ⟨rfl, rfl⟩
  go_wp2_with fail
  refine (FR.out _).mono ?_
  rintro e w' ⟨rfl, rfl⟩
  go_wp2_with fail
  refine (CN.out _).mono ?_
  rintro e w' ⟨rfl, rfl⟩
  go_wp2_with fail
  refine (SR.out _ _).mono ?_
  rintro e w' ⟨rfl, rfl⟩
  go_wp2_with fail
  refine (RB.out _ _).mono ?_
  rintro e w' ⟨rfl, rfl⟩
  go_wp2
  go_ret
  exact ⟨rfl, below_drewN (Below.refl _ _) _⟩

theorem few_sv (x m : Nat) (s k : Nat) (e : Int) (c : Nat) (hm : wm (mg x) = m) (h : sv x * ((2 ^ s : Nat) : Int) = e * ((2 ^ c : Nat) : Int) * ((2 ^ k : Nat) : Int)) (he : e.natAbs ≤ 67108864) : Few m := by
  have h1 := congrArg Int.natAbs h
  rw [Int.natAbs_mul, Int.natAbs_mul, Int.natAbs_mul, Int.natAbs_natCast, Int.natAbs_natCast, Int.natAbs_natCast, sv_abs, wm_wk, hm, Nat.mul_assoc, Nat.mul_assoc, ← Nat.pow_add, ← Nat.pow_add] at h1
  exact few_of _ _ _ _ h1 he
theorem walk (a0 : Nat) (w0 : (Lit.float .f64 a0).wf = true) (w : World) :
    Calls Try.prog 7 #[.float .f64 a0] w fun e w' => e = .returned (.bool true) ∧ Below w.heap.size w w' := by
  have ha := lit_lt w0
  have lh := splitH_lt a0 ha
  have ll := splitL_lt a0
  have ch : canonB (splitH a0) = splitH a0 := by
    unfold splitH; split
    · exact canon_rnf _
    · exact canon_canon a0 ha
  have cl : canonB (splitL a0) = splitL a0 := by
    unfold splitL; split
    · exact canon_rnf _
    · exact canon_zero
  have SP := hid (fun w => split_at a0 _ _ w ha rfl rfl)
  have PH := hid (fun w => plain_any (splitH a0) w lh ch)
  have PL := hid (fun w => plain_any (splitL a0) w ll cl)
  have fb : ∀ v, fin a0 = v → Hid (∀ w, Calls Try.prog 22 #[.float .f64 a0] w fun e w' => e = .returned (.bool v) ∧ w' = w) := fun v hv w => lfinite_at _ v w ha hv
  have nP : isN 9092767647661031424 = false := by decide
  have rP : rk 9092767647661031424 = 9092767647661031424 := by decide
  have hn := negFloat_eq a0 ha
  have hnl := negB_lt ha
  by_cases c : mg a0 ≤ 9092767647661031424
  · have nA : isN a0 = false := isN_false.2 (by omega)
    have hr : -(mg a0 : Int) ≤ rk a0 ∧ rk a0 ≤ mg a0 := by unfold rk; split <;> omega
    have g1 : fgt a0 9092767647661031424 = false := by rw [fgt_rk a0 _ ha (by omega), nA, nP, rP]; simp; omega
    have g2 : fgt (negB a0) 9092767647661031424 = false := by rw [fgt_rk _ _ hnl (by omega), isN_neg, nA, nP, rP, rk_negB a0 ha]; simp; omega
    obtain ⟨⟨fh, eh⟩, fl, el⟩ := split_sv a0 c
    have EQ := hid (fun w => equal_go a0 0 (splitH a0) (splitL a0) w ha (by decide) lh ll (by omega) (by decide) fh fl (by
      have e0 : sv 0 = 0 := by decide
      rw [e0, eh, el]; omega))
    have sh : ∀ y, y < 18446744073709551616 → mg y < 9218868437227405312 → Few (wm (mg y)) → Hid (∀ w, Calls Try.prog 26 #[.float .f64 y] w fun e w' => e = .returned (.bool true) ∧ w' = w) :=
      fun y ly fy hf w => short_go y _ _ _ w (fun w => lparts_at y _ _ _ w ly fy rfl rfl rfl) (wm_lt _) hf
    have few : Few (wm (mg (splitH a0))) ∧ Few (wm (mg (splitL a0))) := by
      by_cases z : mg a0 = 0
      · have e : sv a0 = 0 := by have := sv_abs a0; rw [z, mv_zero] at this; omega
        rw [e, hiV_zero] at eh
        rw [e, hiV_zero, Int.sub_zero] at el
        exact ⟨few_sv _ _ 0 0 0 0 rfl (by rw [eh]; simp) (by decide), few_sv _ _ 0 0 0 0 rfl (by rw [el]; simp) (by decide)⟩
      · obtain ⟨s, μ, η, p⟩ := sp_any a0 z
        refine ⟨few_sv _ _ s (mg a0 / 2 ^ 52 - 1) η 27 rfl (by rw [eh, p.eH]; rfl) p.hη, few_sv _ _ s (mg a0 / 2 ^ 52 - 1) (μ - η * 134217728) 0 rfl (by rw [el, p.eL, Nat.pow_zero, show ((1 : Nat) : Int) = 1 from rfl, Int.mul_one]) p.hl⟩
    exact go_yes a0 _ _ (negB a0) w SP PH PL (fb _ (by unfold fin; exact decide_eq_true (by omega))) g1 hn g2 EQ (sh _ lh fh few.1) (sh _ ll fl few.2)
  · have eh : splitH a0 = canonB a0 := by unfold splitH; rw [if_neg c]
    have el : splitL a0 = 0 := by unfold splitL; rw [if_neg c]
    have CN := hid (fun w => canon_to a0 (splitH a0) w ha eh.symm)
    by_cases f : mg a0 < 9218868437227405312
    · have nA : isN a0 = false := isN_false.2 (by omega)
      have ff := fb true (by unfold fin; exact decide_eq_true f)
      cases s : ng a0
      · have hr : rk a0 = mg a0 := by unfold rk; rw [s]; rfl
        have g1 : fgt a0 9092767647661031424 = true := by rw [fgt_rk a0 _ ha (by omega), nA, nP, rP, hr]; simp; omega
        exact go_pos a0 _ _ w SP PH PL ff g1 CN el
      · have hr : rk a0 = -(mg a0 : Int) := by unfold rk; rw [s]; rfl
        have g1 : fgt a0 9092767647661031424 = false := by rw [fgt_rk a0 _ ha (by omega), nA, nP, rP, hr]; simp; try omega
        have g2 : fgt (negB a0) 9092767647661031424 = true := by rw [fgt_rk _ _ hnl (by omega), isN_neg, nA, nP, rP, rk_negB a0 ha, hr]; simp; try omega
        exact go_neg a0 _ _ (negB a0) w SP PH PL ff g1 hn g2 CN el
    · exact go_nf a0 _ _ w SP PH PL (fb _ (by unfold fin; exact decide_eq_false f)) CN el

set_option maxRecDepth 100000 in
theorem lifted (os : Os) (started : os.Started) (H : Type) (enc : TypeId × Value → H) :
    ReturnsInHanded {} Try.checked os 7 .any (Rows.twinHalvesSpec.pre6 enc Try.prog Try.f7 Rows.twinHalvesRow.domain false) (Rows.twinHalvesSpec.post enc Try.prog Try.f7 false true false false) := by
  refine returnsInHanded_of_change (C := Try.checked) own started (by kernel_rfl) Try.func7
    (ChangeSpec.witness6 (enc := enc) (C := Try.checked) false ⟨#[], #[.float .f64 0], []⟩ 8 (by kernel_rfl) (by kernel_rfl) (by kernel_rfl) (by kernel_rfl)) ?_
  intro W base args ds gs before hval0 hW hcnd _
  have hval : ∀ (j : Nat) t v, Try.f7.params[j]? = some t → args[j]? = some v → Value.okWide Try.prog W .any base t v := hval0
  have hW' := hW
  obtain ⟨p, q, hA0, hV, rfl, hfz, hnd⟩ := hW
  have hA : DataW.TrodAll enc Try.prog W 0 (fun _ => true) true Try.f7.params.toList args.toList ds p := hA0
  rw [Try.params7] at hA hval
  obtain ⟨v0, vs0, d0, ds0, p0, q0, hargs, rfl, rfl, h0, r0⟩ := trodAll_cons hA
  obtain ⟨rfl, rfl, rfl⟩ := trodAll_nil r0
  obtain rfl : args = #[v0] := by cases args; simp_all
  obtain ⟨rfl, rfl⟩ := trodVars_none hV
  obtain ⟨a0, rfl, rfl, rfl, w0⟩ := open_float Try.underlying24 (hval 0 24 v0 rfl rfl) h0
  clear hA0 hval0
  refine (walk a0 w0 W).mono fun e W' ⟨he, hg⟩ => ?_
  subst he
  exact ⟨_, rfl, _, _, _, [], _, [], hW', trodAll_mk1 (shut_bool Try.underlying4 _), (trodAll_cons_mk (shut_float Try.underlying24 w0) trodAll_mk0), rfl, hg.frame _, fun h => by cases h⟩

theorem over : Rows.twinHalvesRow.holds Try.pinned (OpenSpec.ofChange Rows.twinHalvesSpec) :=
  OpenClaim.holds_of_wide 7 Try.f7 rfl rfl rfl rfl rfl rfl rfl ⟨rfl, rfl, rfl, rfl, rfl⟩ rfl rfl rfl rfl rfl (by kernel_rfl) Try.func7 (by kernel_rfl)
    (of_decide_eq_true (by kernel_rfl)) (by unfold Func.isWrapper; first | (rw [if_pos (by decide +kernel)]; kernel_rfl) | (rw [if_neg (by decide +kernel)]; exact ⟨rfl, rfl⟩))
    (fun os started H enc _ => lifted os started H enc)

end Go.Proofs.Ytcamlhpehnfnlaa.twinHalvesDone
namespace Go.Proofs.Ytcamlhpehnfnlaa
theorem twinHalves_holds : Rows.TwinHalvesSaid := twinHalvesDone.over
#print axioms twinHalves_holds
end Go.Proofs.Ytcamlhpehnfnlaa
