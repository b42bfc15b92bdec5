/-
  For every two floats, of any bits, the call of the statement on the most numbers of a sum, reached by doubling, and on what is refused then, returns true.
-/
import Derived.Test.YtpnijbdoceladaaRows
import Derived.Test.YtpnijbdoceladaaHa
import Derived.ProofKit
import Derived.OpenShut
import Derived.WalkLawsBesides
import Derived.Below
namespace Go.Proofs.Ytpnijbdoceladaa.accLimitDone
open Go.ChangeShapes Go.WideShapes Go.ChangeAt Go.RowKit

theorem own : ownKnob Try.prog.godebug = none := by kernel_rfl

open Tf
attribute [local go_sem] run_bits run_from raw_feq raw_fne raw_flt raw_fgt run_neg

/-- a sum doubled so many times -/
def dbl (x : Nat) : Nat → AS
  | 0 => stepA S0 x
  | k + 1 => plusS (dbl x k) (dbl x k)
theorem dbl_c (x k : Nat) : (dbl x k).c = ((2 ^ k : Nat) : Int) := by
  induction k with
  | zero => show (stepP _ _ _).c = _; rw [stepP_c]; rfl
  | succ k ih => show (dbl x k).c + (dbl x k).c = _; rw [ih, Nat.pow_succ]; omega
theorem dbl_good (x k : Nat) (hk : k ≤ 20) : Good (dbl x k) := by
  induction k with
  | zero => exact stepP_good good0 _ _ (by decide)
  | succ k ih =>
    have h := ih (by omega)
    refine plusS_good h h ?_
    rw [dbl_c]
    have : 2 ^ k ≤ 2 ^ 19 := Nat.pow_le_pow_right (by decide) (by omega)
    have e : (2 : Nat) ^ 19 = 524288 := by decide
    omega
theorem dbl_eq (x k : Nat) : dbl x k = ⟨((2 ^ k : Nat) : Int), (unitA x).n * ((2 ^ k : Nat) : Int), (unitA x).V * ((2 ^ k : Nat) : Int), (unitA x).p, (unitA x).q, (unitA x).r⟩ := by
  induction k with
  | zero =>
    show stepA S0 x = _
    rw [stepA_plus, zero_plusS]
    have hc : (unitA x).c = 1 := by show (stepP _ _ _).c = _; rw [stepP_c]; rfl
    apply AS.eq
    · exact hc
    all_goals simp
  | succ k ih =>
    show plusS (dbl x k) (dbl x k) = _
    rw [ih, Nat.pow_succ]
    apply AS.eq
    · simp only [plusS]; omega
    · simp only [plusS]; rw [← Int.mul_add]; congr 1; omega
    · simp only [plusS]; rw [← Int.mul_add]; congr 1; omega
    all_goals simp [plusS]
def MIL : Nat := 4697254411347427328
theorem mil_facts : isN MIL = false ∧ infB MIL = false ∧ zeroB MIL = false ∧ ng MIL = false ∧ mg MIL ≠ 0 := by decide
theorem sv_mil : sv MIL = 1048576 * ((2 ^ K : Nat) : Int) := by
  have : sv MIL = 1048576 * ((one : Nat) : Int) := by decide +kernel
  rw [this, one_pow]
theorem unitP_mil (x : Nat) : unitP x MIL = if isN x then ⟨1, 0, 0, false, false, true⟩ else if infB x then (if ng x then ⟨1, 0, 0, false, true, false⟩ else ⟨1, 0, 0, true, false, false⟩) else if zeroB x then (if ng x then ⟨1, 1, 0, false, false, false⟩ else ⟨1, 0, 0, false, false, false⟩) else ⟨1, 0, sv x * (1048576 * ((2 ^ K : Nat) : Int)), false, false, false⟩ := by
  obtain ⟨h1, h2, h3, h4, _⟩ := mil_facts
  unfold unitP stepP
  rw [h1, h2, h3, h4, sv_mil]
  simp only [Bool.or_false, Bool.and_false, Bool.bne_false]
  simp [S0]
theorem val_dbl (x : Nat) : valB (dbl x 20) = valB (unitP x MIL) := by
  rw [dbl_eq, unitA_eq, unitP_mil]
  have e20 : ((2 ^ 20 : Nat) : Int) = 1048576 := by decide
  rw [e20]
  by_cases h1 : isN x = true
  · rw [if_pos h1, if_pos h1]; unfold valB; simp
  · rw [if_neg h1, if_neg h1]
    by_cases h2 : infB x = true
    · rw [if_pos h2, if_pos h2]
      by_cases h3 : ng x = true
      · rw [if_pos h3]; unfold valB; simp
      · rw [if_neg h3]; unfold valB; simp
    · rw [if_neg h2, if_neg h2]
      by_cases h4 : zeroB x = true
      · rw [if_pos h4, if_pos h4]
        by_cases h3 : ng x = true
        · rw [if_pos h3]; unfold valB; simp
        · rw [if_neg h3]; unfold valB; simp
      · rw [if_neg h4, if_neg h4]
        unfold valB
        have : sv x * ((2 ^ K : Nat) : Int) * 1048576 = sv x * (1048576 * ((2 ^ K : Nat) : Int)) := by rw [Int.mul_assoc, Int.mul_comm 1048576]
        rw [this]
        simp
/-- the machine's product by 2^20 is what Value says of so many numbers -/
theorem val_limit (x : Nat) (hx : x < 18446744073709551616) :
    (Ieee.double.mul x MIL = none ∧ valB (dbl x 20) = quiet) ∨ ∃ t, Ieee.double.mul x MIL = some t ∧ feq t t = true ∧ valB (dbl x 20) = t := by
  rw [val_dbl]
  rcases val_prod x MIL hx (by decide) with ⟨h1, h2⟩ | ⟨t, h1, n, l, ⟨z1, z2, z3, h2⟩ | ⟨z, h2⟩⟩
  · exact Or.inl ⟨h1, h2⟩
  · exfalso
    have hu : unitP x MIL = ⟨1, 0, sv x * (1048576 * ((2 ^ K : Nat) : Int)), false, false, false⟩ ∨ valB (unitP x MIL) ≠ 0 ∨ mg x = 0 := by
      rw [unitP_mil]
      by_cases q1 : isN x = true
      · right; left; rw [if_pos q1]; unfold valB; simp [quiet]
      · rw [if_neg q1]
        by_cases q2 : infB x = true
        · right; left; rw [if_pos q2]; unfold valB; cases ng x <;> simp
        · rw [if_neg q2]
          by_cases q3 : zeroB x = true
          · right; right; unfold zeroB at q3; simpa using q3
          · left; rw [if_neg q3]
    rcases hu with hu | hu | hu
    · have h3 : valB (unitP x MIL) = 0 := h2
      rw [hu] at h3
      unfold valB at h3
      simp only [Bool.or_false, Bool.and_false, Bool.false_eq_true, if_false] at h3
      rw [if_neg (by omega)] at h3
      have e : sv x * (1048576 * ((2 ^ K : Nat) : Int)) = (sv x * 1048576) * ((2 ^ K : Nat) : Int) := by rw [Int.mul_assoc]
      rw [e, canon_rv_scale] at h3
      refine rn_nonzero _ ?_ h3
      have hm : 0 < mv (mg x) := by have := mv_lt (r := 0) (r' := mg x); rw [mv_zero] at this; omega
      unfold sv
      cases ng x <;> simp <;> omega
    · exact hu h2
    · exact z2 hu
  · exact Or.inr ⟨t, h1, feq_own t n l, h2⟩


set_option maxHeartbeats 4000000 in
theorem go_none (x y s : Nat) (w : World) (hm : Ieee.double.mul x MIL = none) (hs : s = 9221120237041090561) (hx : Hid (x < 18446744073709551616)) (hy : Hid (y < 18446744073709551616)) (hv : Hid (valB (dbl x 20) = s))
    (AW : Hid (∀ w, Calls Try.prog 9 #[] w fun e w' => e = .returned (.bool true) ∧ Hid (Below w.heap.size w w')))
    (RF : Hid (∀ (a : Int) (w : World), Calls Try.prog 26 #[.int .u64 a] w fun e w' => e = .returned (.float .f64 a.toNat) ∧ w' = w))
    (RS : Hid (∀ (a : Nat) (w : World), Calls Try.prog 20 #[.float .f64 a, .float .f64 a] w fun e w' => e = .returned (.bool true) ∧ w' = w)) :
    Calls Try.prog 8 #[.float .f64 x, .float .f64 y] w fun e w' => e = .returned (.bool true) ∧ Below w.heap.size w w' := by
  have h2 := fun (ty : TypeId) (w : World) => run_nan_mul (P := Try.prog) w ty x MIL hm
  have n2 := fun (w : World) => feq_nan (nanOf w x MIL) (nanOf w x MIL) (.inl (isN_nanOf w x MIL))
  unfold MIL at h2 n2
  clear hm
  go_enter Try.func8, Try.ntmps8
  go_wp2_with fail
  refine (AW.out _).mono ?_
  rintro e w1 ⟨rfl, b1⟩
  go_wp2_with fail
  refine (new_go _).mono ?_
  rintro e w2 ⟨rfl, rfl⟩
  have hs2 := b1.out.size
  have I2 : Hid (IsAcc w1.heap.size S0 (w1.alloc (.cells (encA S0) 56))) := heap_alloc_new _ _
  have B2 : Hid (Below w.heap.size w (w1.alloc (.cells (encA S0) 56))) := b1.out.alloc hs2 _
  obtain ⟨g, hg⟩ : ∃ g, w1.heap.size = g := ⟨_, rfl⟩
  obtain ⟨w2, hw2⟩ : ∃ W, w1.alloc (.cells (encA S0) 56) = W := ⟨_, rfl⟩
  rw [hg] at hs2 I2 ⊢
  rw [hw2] at I2 B2 ⊢
  have HS := hid hs2
  clear hg hw2 b1 hs2 AW
  go_wp2_with fail
  refine (add_at g x S0 w2 hx.out I2.out good0 (by decide)).mono ?_
  rintro e w3 ⟨rfl, I3, b3⟩
  have B3 : Hid (Below w.heap.size w w3) := B2.out.trans (b3.out.below HS.out B2.out.size)
  clear B2 b3 I2
  go_wp2
  go_loopw [7] (fun iv wr => ∃ k : Nat, k ≤ 20 ∧ iv = .int .i64 (k : Nat) ∧ IsAcc g (dbl x k) wr ∧ Below w.heap.size w wr) (fun iv _ => 20 - (intOf iv).toNat)
  case atStart => exact ⟨0, by omega, rfl, I3.out, B3.out⟩
  case round =>
    clear B3 I3
    obtain ⟨k, hk, rfl, ik, bk⟩ := hrel
    have gk := dbl_good x k hk
    by_cases hlt : k < 20
    · have hc := dbl_c x k
      have hp : 2 ^ k ≤ 2 ^ 19 := Nat.pow_le_pow_right (by decide) (by omega)
      have e19 : (2 : Nat) ^ 19 = 524288 := by decide
      have M := hid (merge_own g (dbl x k) wr ik gk.c0 (by rw [hc]; omega) gk.n0 gk.n1)
      have BK := hid bk
      have il : ((k : Nat) : Int) < 20 := by omega
      clear hc hp e19 ik bk gk
      go_wp2_with fail
      refine M.out.mono ?_
      rintro e w4 ⟨rfl, I4, b4⟩
      go_wp2
      exact ⟨⟨k + 1, by omega, by simp, I4.out, BK.out.trans (b4.out.below HS.out BK.out.size)⟩, by simp [intOf]; omega⟩
    · have e : k = 20 := by omega
      subst e
      have hc : (dbl x 20).c = 1048576 := by rw [dbl_c]; rfl
      have IK := hid ik
      have BK := hid bk
      have GK := hid gk
      have HC := hid hc
      clear hk hlt ik bk gk hc
      go_wp2_with fail
      refine (new_go _).mono ?_
      rintro e w5 ⟨rfl, rfl⟩
      have hsz := BK.out.size
      have hgl := row_lt IK.out
      have I5 : Hid (IsAcc wr.heap.size S0 (wr.alloc (.cells (encA S0) 56))) := heap_alloc_new _ _
      have J5 : Hid (IsAcc g (dbl x 20) (wr.alloc (.cells (encA S0) 56))) := IK.out.alloc _
      have B5 : Hid (Below w.heap.size w (wr.alloc (.cells (encA S0) 56))) := BK.out.alloc hsz _
      obtain ⟨h, hh⟩ : ∃ g, wr.heap.size = g := ⟨_, rfl⟩
      obtain ⟨w5, hw5⟩ : ∃ W, wr.alloc (.cells (encA S0) 56) = W := ⟨_, rfl⟩
      rw [hh] at hsz hgl I5 ⊢
      rw [hw5] at I5 J5 B5 ⊢
      have HZ := hid hsz
      have HG := hid hgl
      clear hh hw5 hsz hgl IK BK
      go_wp2_with fail
      refine (add_at h y S0 w5 hy.out I5.out good0 (by decide)).mono ?_
      rintro e w6 ⟨rfl, I6, b6⟩
      have J6 : Hid (IsAcc g (dbl x 20) w6) := J5.out.but b6.out (by have := HG.out; omega)
      have B6 : Hid (Below w.heap.size w w6) := B5.out.trans (b6.out.below HZ.out B5.out.size)
      have ca : Hid (w6.cell? ⟨g, 0, none⟩ = some (.int .i64 1048576)) := by show _ = _; rw [J6.out.c0, HC.out]
      have cb : Hid (w6.cell? ⟨h, 0, none⟩ = some (.int .i64 1)) := by show _ = _; rw [I6.out.c0]; show some (Value.int .i64 (stepP _ _ _).c) = _; rw [stepP_c]; rfl
      clear I5 J5 B5 b6 I6
      go_wp2_with fail
      refine (addv _ y 3 w6 (fun w' => w' = w6) (addp_long g y ONE _ w6 ca.out (by decide))).mono ?_
      rintro e w7 ⟨rfl, rfl⟩
      go_wp2_with fail
      refine (addp_long g y y _ _ ca.out (by decide)).mono ?_
      rintro e w8 ⟨rfl, rfl⟩
      go_wp2_with fail
      refine (merge_long g h _ _ _ ca.out cb.out (by decide) (by decide) (by decide) (by decide) (by decide)).mono ?_
      rintro e w9 ⟨rfl, hw9⟩
      have ca : Hid (w9.cell? ⟨g, 0, none⟩ = some (.int .i64 1048576)) := by show _ = _; rw [hw9]; exact ca.out
      have cb : Hid (w9.cell? ⟨h, 0, none⟩ = some (.int .i64 1)) := by show _ = _; rw [hw9]; exact cb.out
      have J6 : Hid (IsAcc g (dbl x 20) w9) := by show IsAcc _ _ _; rw [hw9]; exact J6.out
      have B6 : Hid (Below w.heap.size w w9) := by show Below _ _ _; rw [hw9]; exact B6.out.drew
      clear hw9
      go_wp2_with fail
      refine (merge_long g g _ _ _ ca.out ca.out (by decide) (by decide) (by decide) (by decide) (by decide)).mono ?_
      rintro e w10 ⟨rfl, hw10⟩
      have ca : Hid (w10.cell? ⟨g, 0, none⟩ = some (.int .i64 1048576)) := by show _ = _; rw [hw10]; exact ca.out
      have cb : Hid (w10.cell? ⟨h, 0, none⟩ = some (.int .i64 1)) := by show _ = _; rw [hw10]; exact cb.out
      have J6 : Hid (IsAcc g (dbl x 20) w10) := by show IsAcc _ _ _; rw [hw10]; exact J6.out
      have B6 : Hid (Below w.heap.size w w10) := by show Below _ _ _; rw [hw10]; exact B6.out.drew
      clear hw10
      go_wp2_with fail
      refine (merge_long h g _ _ _ cb.out ca.out (by decide) (by decide) (by decide) (by decide) (by decide)).mono ?_
      rintro e w11 ⟨rfl, hw11⟩
      have ca : Hid (w11.cell? ⟨g, 0, none⟩ = some (.int .i64 1048576)) := by show _ = _; rw [hw11]; exact ca.out
      have cb : Hid (w11.cell? ⟨h, 0, none⟩ = some (.int .i64 1)) := by show _ = _; rw [hw11]; exact cb.out
      have J6 : Hid (IsAcc g (dbl x 20) w11) := by show IsAcc _ _ _; rw [hw11]; exact J6.out
      have B6 : Hid (Below w.heap.size w w11) := by show Below _ _ _; rw [hw11]; exact B6.out.drew
      clear hw11
      go_wp2_with fail
      refine (RF.out _ _).mono ?_
      rintro e w12 ⟨rfl, rfl⟩
      go_wp2_with fail
      refine (count_at g 1048576 w11.drew ca.out).mono ?_
      rintro e w13 ⟨rfl, rfl⟩
      go_wp2_with fail
      refine (count_at h 1 w11.drew cb.out).mono ?_
      rintro e w14 ⟨rfl, rfl⟩
      have V : Hid (∀ W, IsAcc g (dbl x 20) W → Calls Try.prog 21 #[.pointer (some ⟨g, 0, none⟩)] W fun e w' => e = .returned (.float .f64 s) ∧ Below W.heap.size W w') := by
        intro W hW
        have := value_at g _ W hW GK.out.c0 GK.out.h0 GK.out.h1
        rw [hv.out] at this; exact this
      go_wp2_with fail
      refine (V.out w11.drew J6.out).mono ?_
      rintro e w15 ⟨rfl, b15⟩
      have B15 : Hid (Below w.heap.size w w15) := B6.out.drew.trans (b15.mono B6.out.size)
      clear b15 V J6 B6 ca cb
      subst hs
      go_wp2_with fail
      refine (RS.out _ _).mono ?_
      rintro e w16 ⟨rfl, rfl⟩
      go_wp2
      go_ret
      exact ⟨rfl, B15.out⟩

set_option maxHeartbeats 4000000 in
theorem go_some (x y s : Nat) (w : World) (hm : Ieee.double.mul x MIL = some s) (hs : feq s s = true) (hx : Hid (x < 18446744073709551616)) (hy : Hid (y < 18446744073709551616)) (hv : Hid (valB (dbl x 20) = s))
    (AW : Hid (∀ w, Calls Try.prog 9 #[] w fun e w' => e = .returned (.bool true) ∧ Hid (Below w.heap.size w w')))
    (_RF : Hid (∀ (a : Int) (w : World), Calls Try.prog 26 #[.int .u64 a] w fun e w' => e = .returned (.float .f64 a.toNat) ∧ w' = w))
    (RS : Hid (∀ (a : Nat) (w : World), Calls Try.prog 20 #[.float .f64 a, .float .f64 a] w fun e w' => e = .returned (.bool true) ∧ w' = w)) :
    Calls Try.prog 8 #[.float .f64 x, .float .f64 y] w fun e w' => e = .returned (.bool true) ∧ Below w.heap.size w w' := by
  have h2 := fun (ty : TypeId) (w : World) => run_float_arith (P := Try.prog) w .mul ty .f64 x MIL s hm
  unfold MIL at h2
  clear hm
  go_enter Try.func8, Try.ntmps8
  go_wp2_with fail
  refine (AW.out _).mono ?_
  rintro e w1 ⟨rfl, b1⟩
  go_wp2_with fail
  refine (new_go _).mono ?_
  rintro e w2 ⟨rfl, rfl⟩
  have hs2 := b1.out.size
  have I2 : Hid (IsAcc w1.heap.size S0 (w1.alloc (.cells (encA S0) 56))) := heap_alloc_new _ _
  have B2 : Hid (Below w.heap.size w (w1.alloc (.cells (encA S0) 56))) := b1.out.alloc hs2 _
  obtain ⟨g, hg⟩ : ∃ g, w1.heap.size = g := ⟨_, rfl⟩
  obtain ⟨w2, hw2⟩ : ∃ W, w1.alloc (.cells (encA S0) 56) = W := ⟨_, rfl⟩
  rw [hg] at hs2 I2 ⊢
  rw [hw2] at I2 B2 ⊢
  have HS := hid hs2
  clear hg hw2 b1 hs2 AW
  go_wp2_with fail
  refine (add_at g x S0 w2 hx.out I2.out good0 (by decide)).mono ?_
  rintro e w3 ⟨rfl, I3, b3⟩
  have B3 : Hid (Below w.heap.size w w3) := B2.out.trans (b3.out.below HS.out B2.out.size)
  clear B2 b3 I2
  go_wp2
  go_loopw [7] (fun iv wr => ∃ k : Nat, k ≤ 20 ∧ iv = .int .i64 (k : Nat) ∧ IsAcc g (dbl x k) wr ∧ Below w.heap.size w wr) (fun iv _ => 20 - (intOf iv).toNat)
  case atStart => exact ⟨0, by omega, rfl, I3.out, B3.out⟩
  case round =>
    clear B3 I3
    obtain ⟨k, hk, rfl, ik, bk⟩ := hrel
    have gk := dbl_good x k hk
    by_cases hlt : k < 20
    · have hc := dbl_c x k
      have hp : 2 ^ k ≤ 2 ^ 19 := Nat.pow_le_pow_right (by decide) (by omega)
      have e19 : (2 : Nat) ^ 19 = 524288 := by decide
      have M := hid (merge_own g (dbl x k) wr ik gk.c0 (by rw [hc]; omega) gk.n0 gk.n1)
      have BK := hid bk
      have il : ((k : Nat) : Int) < 20 := by omega
      clear hc hp e19 ik bk gk
      go_wp2_with fail
      refine M.out.mono ?_
      rintro e w4 ⟨rfl, I4, b4⟩
      go_wp2
      exact ⟨⟨k + 1, by omega, by simp, I4.out, BK.out.trans (b4.out.below HS.out BK.out.size)⟩, by simp [intOf]; omega⟩
    · have e : k = 20 := by omega
      subst e
      have hc : (dbl x 20).c = 1048576 := by rw [dbl_c]; rfl
      have IK := hid ik
      have BK := hid bk
      have GK := hid gk
      have HC := hid hc
      clear hk hlt ik bk gk hc
      go_wp2_with fail
      refine (new_go _).mono ?_
      rintro e w5 ⟨rfl, rfl⟩
      have hsz := BK.out.size
      have hgl := row_lt IK.out
      have I5 : Hid (IsAcc wr.heap.size S0 (wr.alloc (.cells (encA S0) 56))) := heap_alloc_new _ _
      have J5 : Hid (IsAcc g (dbl x 20) (wr.alloc (.cells (encA S0) 56))) := IK.out.alloc _
      have B5 : Hid (Below w.heap.size w (wr.alloc (.cells (encA S0) 56))) := BK.out.alloc hsz _
      obtain ⟨h, hh⟩ : ∃ g, wr.heap.size = g := ⟨_, rfl⟩
      obtain ⟨w5, hw5⟩ : ∃ W, wr.alloc (.cells (encA S0) 56) = W := ⟨_, rfl⟩
      rw [hh] at hsz hgl I5 ⊢
      rw [hw5] at I5 J5 B5 ⊢
      have HZ := hid hsz
      have HG := hid hgl
      clear hh hw5 hsz hgl IK BK
      go_wp2_with fail
      refine (add_at h y S0 w5 hy.out I5.out good0 (by decide)).mono ?_
      rintro e w6 ⟨rfl, I6, b6⟩
      have J6 : Hid (IsAcc g (dbl x 20) w6) := J5.out.but b6.out (by have := HG.out; omega)
      have B6 : Hid (Below w.heap.size w w6) := B5.out.trans (b6.out.below HZ.out B5.out.size)
      have ca : Hid (w6.cell? ⟨g, 0, none⟩ = some (.int .i64 1048576)) := by show _ = _; rw [J6.out.c0, HC.out]
      have cb : Hid (w6.cell? ⟨h, 0, none⟩ = some (.int .i64 1)) := by show _ = _; rw [I6.out.c0]; show some (Value.int .i64 (stepP _ _ _).c) = _; rw [stepP_c]; rfl
      clear I5 J5 B5 b6 I6
      go_wp2_with fail
      refine (addv _ y 3 w6 (fun w' => w' = w6) (addp_long g y ONE _ w6 ca.out (by decide))).mono ?_
      rintro e w7 ⟨rfl, rfl⟩
      go_wp2_with fail
      refine (addp_long g y y _ _ ca.out (by decide)).mono ?_
      rintro e w8 ⟨rfl, rfl⟩
      go_wp2_with fail
      refine (merge_long g h _ _ _ ca.out cb.out (by decide) (by decide) (by decide) (by decide) (by decide)).mono ?_
      rintro e w9 ⟨rfl, hw9⟩
      have ca : Hid (w9.cell? ⟨g, 0, none⟩ = some (.int .i64 1048576)) := by show _ = _; rw [hw9]; exact ca.out
      have cb : Hid (w9.cell? ⟨h, 0, none⟩ = some (.int .i64 1)) := by show _ = _; rw [hw9]; exact cb.out
      have J6 : Hid (IsAcc g (dbl x 20) w9) := by show IsAcc _ _ _; rw [hw9]; exact J6.out
      have B6 : Hid (Below w.heap.size w w9) := by show Below _ _ _; rw [hw9]; exact B6.out.drew
      clear hw9
      go_wp2_with fail
      refine (merge_long g g _ _ _ ca.out ca.out (by decide) (by decide) (by decide) (by decide) (by decide)).mono ?_
      rintro e w10 ⟨rfl, hw10⟩
      have ca : Hid (w10.cell? ⟨g, 0, none⟩ = some (.int .i64 1048576)) := by show _ = _; rw [hw10]; exact ca.out
      have cb : Hid (w10.cell? ⟨h, 0, none⟩ = some (.int .i64 1)) := by show _ = _; rw [hw10]; exact cb.out
      have J6 : Hid (IsAcc g (dbl x 20) w10) := by show IsAcc _ _ _; rw [hw10]; exact J6.out
      have B6 : Hid (Below w.heap.size w w10) := by show Below _ _ _; rw [hw10]; exact B6.out.drew
      clear hw10
      go_wp2_with fail
      refine (merge_long h g _ _ _ cb.out ca.out (by decide) (by decide) (by decide) (by decide) (by decide)).mono ?_
      rintro e w11 ⟨rfl, hw11⟩
      have ca : Hid (w11.cell? ⟨g, 0, none⟩ = some (.int .i64 1048576)) := by show _ = _; rw [hw11]; exact ca.out
      have cb : Hid (w11.cell? ⟨h, 0, none⟩ = some (.int .i64 1)) := by show _ = _; rw [hw11]; exact cb.out
      have J6 : Hid (IsAcc g (dbl x 20) w11) := by show IsAcc _ _ _; rw [hw11]; exact J6.out
      have B6 : Hid (Below w.heap.size w w11) := by show Below _ _ _; rw [hw11]; exact B6.out.drew
      clear hw11
      go_wp2_with fail
      refine (count_at g 1048576 w11 ca.out).mono ?_
      rintro e w13 ⟨rfl, rfl⟩
      go_wp2_with fail
      refine (count_at h 1 w13 cb.out).mono ?_
      rintro e w14 ⟨rfl, rfl⟩
      have V : Hid (∀ W, IsAcc g (dbl x 20) W → Calls Try.prog 21 #[.pointer (some ⟨g, 0, none⟩)] W fun e w' => e = .returned (.float .f64 s) ∧ Below W.heap.size W w') := by
        intro W hW
        have := value_at g _ W hW GK.out.c0 GK.out.h0 GK.out.h1
        rw [hv.out] at this; exact this
      go_wp2_with fail
      refine (V.out w14 J6.out).mono ?_
      rintro e w15 ⟨rfl, b15⟩
      have B15 : Hid (Below w.heap.size w w15) := B6.out.trans (b15.mono B6.out.size)
      clear b15 V J6 B6 ca cb

      go_wp2_with fail
      refine (RS.out _ _).mono ?_
      rintro e w16 ⟨rfl, rfl⟩
      go_wp2
      go_ret
      exact ⟨rfl, B15.out⟩

theorem walk (a0 a1 : Nat) (w0 : (Lit.float .f64 a0).wf = true) (w1 : (Lit.float .f64 a1).wf = true) (w : World) :
    Calls Try.prog 8 #[.float .f64 a0, .float .f64 a1] w fun e w' => e = .returned (.bool true) ∧ Below w.heap.size w w' := by
  have hx := lit_lt w0
  have hy := lit_lt w1
  have AW := hid awake_any
  have RF := hid rawFrom_any
  have RS := hid same_self
  rcases val_limit a0 hx with ⟨h1, h2⟩ | ⟨t, h1, h2, h3⟩
  · exact go_none a0 a1 _ w h1 rfl hx hy h2 AW RF RS
  · exact go_some a0 a1 t w h1 h2 hx hy h3 AW RF RS

set_option maxRecDepth 100000 in
theorem lifted (os : Os) (started : os.Started) (H : Type) (enc : TypeId × Value → H) :
    ReturnsInHanded {} Try.checked os 8 .any (Rows.accLimitSpec.pre6 enc Try.prog Try.f8 Rows.accLimitRow.domain false) (Rows.accLimitSpec.post enc Try.prog Try.f8 false true false false) := by
  refine returnsInHanded_of_change (C := Try.checked) own started (by kernel_rfl) Try.func8
    (ChangeSpec.witness6 (enc := enc) (C := Try.checked) false ⟨#[], #[.float .f64 0, .float .f64 0], []⟩ 8 (by kernel_rfl) (by kernel_rfl) (by kernel_rfl) (by kernel_rfl)) ?_
  intro W base args ds gs before hval0 hW hcnd _
  have hval : ∀ (j : Nat) t v, Try.f8.params[j]? = some t → args[j]? = some v → Value.okWide Try.prog W .any base t v := hval0
  have hW' := hW
  obtain ⟨p, q, hA0, hV, rfl, hfz, hnd⟩ := hW
  have hA : DataW.TrodAll enc Try.prog W 0 (fun _ => true) true Try.f8.params.toList args.toList ds p := hA0
  rw [Try.params8] at hA hval
  obtain ⟨v0, vs0, d0, ds0, p0, q0, hargs, rfl, rfl, h0, r0⟩ := trodAll_cons hA
  obtain ⟨v1, vs1, d1, ds1, p1, q1, rfl, rfl, rfl, h1, r1⟩ := trodAll_cons r0
  obtain ⟨rfl, rfl, rfl⟩ := trodAll_nil r1
  obtain rfl : args = #[v0, v1] := by cases args; simp_all
  obtain ⟨rfl, rfl⟩ := trodVars_none hV
  obtain ⟨a0, rfl, rfl, rfl, w0⟩ := open_float Try.underlying30 (hval 0 30 v0 rfl rfl) h0
  obtain ⟨a1, rfl, rfl, rfl, w1⟩ := open_float Try.underlying30 (hval 1 30 v1 rfl rfl) h1
  clear hA0 hval0
  refine (walk a0 a1 w0 w1 W).mono fun e W' ⟨he, hg⟩ => ?_
  subst he
  exact ⟨_, rfl, _, _, _, [], _, [], hW', trodAll_mk1 (shut_bool Try.underlying4 _), (trodAll_cons_mk (shut_float Try.underlying30 w0) (trodAll_cons_mk (shut_float Try.underlying30 w1) trodAll_mk0)), rfl, hg.frame _, fun h => by cases h⟩

theorem over : Rows.accLimitRow.holds Try.pinned (OpenSpec.ofChange Rows.accLimitSpec) :=
  OpenClaim.holds_of_wide 8 Try.f8 rfl rfl rfl rfl rfl rfl rfl ⟨rfl, rfl, rfl, rfl, rfl⟩ rfl rfl rfl rfl rfl (by kernel_rfl) Try.func8 (by kernel_rfl)
    (of_decide_eq_true (by kernel_rfl)) (by unfold Func.isWrapper; first | (rw [if_pos (by decide +kernel)]; kernel_rfl) | (rw [if_neg (by decide +kernel)]; exact ⟨rfl, rfl⟩))
    (fun os started H enc _ => lifted os started H enc)

end Go.Proofs.Ytpnijbdoceladaa.accLimitDone
namespace Go.Proofs.Ytpnijbdoceladaa
theorem accLimit_holds : Rows.AccLimitSaid := accLimitDone.over
#print axioms accLimit_holds
end Go.Proofs.Ytpnijbdoceladaa
