/-
  For every three floats, of any bits, and every count, the call of the statement on Between returns true and leaves its arguments as they were.
-/
import Derived.Test.YtedobmladjhdkaaRows
import Derived.Test.YtedobmladjhdkaaPm
import Derived.Test.YtedobmladjhdkaaWd
import Derived.ProofKit
import Derived.OpenShut
import Derived.WalkLawsBesides
namespace Go.Proofs.Ytedobmladjhdkaa.bitsBetweenDone
open Go.ChangeShapes Go.WideShapes Go.ChangeAt Go.RowKit

theorem own : ownKnob Try.prog.godebug = none := by kernel_rfl

open Tf
attribute [local go_sem] run_bits run_from raw_feq raw_fne raw_flt raw_fgt run_neg

def fitB (a b : Int) : Bool := (decide (a < 0) != decide (b < 0)) || (decide (wrap64 (a + b) < 0) == decide (a < 0))
set_option maxHeartbeats 400000 in
theorem fits_any (a b s : Int) (f : Bool) (w : World) (hs : wrap64 (a + b) = s) (hf : Hid (fitB a b = f)) :
    Calls Try.prog 23 #[.int .i64 a, .int .i64 b] w fun e w' => e = .returned (.tuple #[.int .i64 s, .bool f]) ∧ w' = w := by
  by_cases h1 : a < 0
  · by_cases h2 : b < 0
    · have e1 : decide (a < 0) = true := by simp; omega
      have e2 : decide (b < 0) = true := by simp; omega
      have hb := hf.out
      unfold fitB at hb
      rw [e1, e2, hs] at hb
      simp at hb
      clear h1 h2 hf
      go_enter Try.func23, Try.ntmps23
      go_wp2
      go_ret2
      exact ⟨by simp [hs], rfl⟩
    · have e1 : decide (a < 0) = true := by simp; omega
      have e2 : decide (b < 0) = false := by simp; omega
      have hb := hf.out
      unfold fitB at hb
      rw [e1, e2, hs] at hb
      simp at hb
      subst hb
      clear h1 h2 hf
      go_enter Try.func23, Try.ntmps23
      go_wp2
      go_ret2
      exact ⟨by simp [hs], rfl⟩
  · by_cases h2 : b < 0
    · have e1 : decide (a < 0) = false := by simp; omega
      have e2 : decide (b < 0) = true := by simp; omega
      have hb := hf.out
      unfold fitB at hb
      rw [e1, e2, hs] at hb
      simp at hb
      subst hb
      clear h1 h2 hf
      go_enter Try.func23, Try.ntmps23
      go_wp2
      go_ret2
      exact ⟨by simp [hs], rfl⟩
    · have e1 : decide (a < 0) = false := by simp; omega
      have e2 : decide (b < 0) = false := by simp; omega
      have hb := hf.out
      unfold fitB at hb
      rw [e1, e2, hs] at hb
      simp at hb
      clear h1 h2 hf
      go_enter Try.func23, Try.ntmps23
      go_wp2
      go_ret2
      exact ⟨by simp [hs], rfl⟩

theorem round_fact (A c : Nat) (hA : A < 18446744073709551616) (nA : isN A = false) (fA : fin A = true) :
    ∃ U d is e0 was, upB A = U ∧ U < 18446744073709551616 ∧ isN U = false ∧ betB c U = d ∧ betOk c U = is ∧ betB c A = e0 ∧ betOk c A = was ∧ (is = true → was = true → wrap64 (e0 + 1) = d) := by
  have hf : mg A < 9218868437227405312 := by unfold fin at fA; simpa using fA
  have hne : ¬ A = 9218868437227405312 := by intro e; subst e; simp [mg] at hf
  have ru := rk_up A hA nA hne
  refine ⟨_, _, _, _, _, rfl, upB_lt hA, ru.1, rfl, rfl, rfl, rfl, ?_⟩
  intro i1 i2
  have e1 : betB c (upB A) = rk (upB A) - rk c := by unfold betB; rw [i1]; rfl
  have e2 : betB c A = rk A - rk c := by unfold betB; rw [i2]; rfl
  unfold betOk betD at i1
  simp only [Bool.and_eq_true, decide_eq_true_eq] at i1
  rw [e1, e2]
  unfold wrap64
  omega
set_option maxHeartbeats 2000000 in
set_option maxRecDepth 100000 in
theorem sn0 (a b c : Nat) (n x y z s v : Int) (ok also too fit back : Bool) (w : World) (ha : a < 18446744073709551616) (hb : b < 18446744073709551616) (hc : c < 18446744073709551616)
    (h1 : Hid (betB a b = x)) (h2 : Hid (betOk a b = ok)) (h3 : Hid (betB b c = y)) (h4 : Hid (betOk b c = also)) (h5 : Hid (betB a c = z)) (h6 : Hid (betOk a c = too)) (h7 : Hid (wrap64 (x + y) = s)) (h8 : Hid (fitB x y = fit)) (h9 : Hid (betB b a = v)) (h10 : Hid (betOk b a = back)) (hf : Hid (fin a = false))
    (e1 : ok = false) (e2 : (x != 0) = false) (f1 : feq a a = false) :
    Calls Try.prog 7 #[.float .f64 a, .float .f64 b, .float .f64 c, .int .u8 n] w fun e w' => e = .returned (.bool true) ∧ Grown w w' := by
  subst e1
  go_enter Try.func7, Try.ntmps7
  go_wp2_with fail
  refine (lives_any _).mono ?_
  rintro e w' ⟨rfl, rfl⟩
  go_wp2_with fail
  refine (between_at a b x _ _ ha hb h1.out h2.out).mono ?_
  rintro e w' ⟨rfl, rfl⟩
  go_wp2_with fail
  refine (between_at b c y _ _ hb hc h3.out h4.out).mono ?_
  rintro e w' ⟨rfl, rfl⟩
  go_wp2_with fail
  refine (between_at a c z _ _ ha hc h5.out h6.out).mono ?_
  rintro e w' ⟨rfl, rfl⟩
  go_wp2_with fail
  refine (fits_any x y s _ _ h7.out h8).mono ?_
  rintro e w' ⟨rfl, rfl⟩
  go_wp2_with fail
  refine (between_at b a v _ _ hb ha h9.out h10.out).mono ?_
  rintro e w' ⟨rfl, rfl⟩
  go_wp2_with fail
  refine (finite_no a _ ha hf.out).mono ?_
  rintro e w' ⟨rfl, rfl⟩
  go_wp2
  go_ret
  exact ⟨rfl, (Grown.refl _).drew⟩
set_option maxHeartbeats 2000000 in
set_option maxRecDepth 100000 in
theorem ln1 (a b c : Nat) (n x y z s v : Int) (ok also too fit back : Bool) (w : World) (ha : a < 18446744073709551616) (hb : b < 18446744073709551616) (hc : c < 18446744073709551616) (hn0 : 0 ≤ n) (hn : n ≤ 255)
    (h1 : Hid (betB a b = x)) (h2 : Hid (betOk a b = ok)) (h3 : Hid (betB b c = y)) (h4 : Hid (betOk b c = also)) (h5 : Hid (betB a c = z)) (h6 : Hid (betOk a c = too)) (h7 : Hid (wrap64 (x + y) = s)) (h8 : Hid (fitB x y = fit)) (h9 : Hid (betB b a = v)) (h10 : Hid (betOk b a = back)) (NA : Hid (isN a = false)) (hf : Hid (fin a = true))
    (e1 : ok = false) (e2 : (x != 0) = false) (f1 : feq a a = true) (f2 : feq b b = false) :
    Calls Try.prog 7 #[.float .f64 a, .float .f64 b, .float .f64 c, .int .u8 n] w fun e w' => e = .returned (.bool true) ∧ Grown w w' := by
  subst e1
  go_enter Try.func7, Try.ntmps7
  go_wp2_with fail
  refine (lives_any _).mono ?_
  rintro e w' ⟨rfl, rfl⟩
  go_wp2_with fail
  refine (between_at a b x _ _ ha hb h1.out h2.out).mono ?_
  rintro e w' ⟨rfl, rfl⟩
  go_wp2_with fail
  refine (between_at b c y _ _ hb hc h3.out h4.out).mono ?_
  rintro e w' ⟨rfl, rfl⟩
  go_wp2_with fail
  refine (between_at a c z _ _ ha hc h5.out h6.out).mono ?_
  rintro e w' ⟨rfl, rfl⟩
  go_wp2_with fail
  refine (fits_any x y s _ _ h7.out h8).mono ?_
  rintro e w' ⟨rfl, rfl⟩
  go_wp2_with fail
  refine (between_at b a v _ _ hb ha h9.out h10.out).mono ?_
  rintro e w' ⟨rfl, rfl⟩
  go_wp2_with fail
  refine (finite_yes a _ ha hf.out).mono ?_
  rintro e w' ⟨rfl, rfl⟩
  go_wp2
  go_loop [0, 19, 20] (fun av kv iv => ∃ A j : Nat, A < 18446744073709551616 ∧ isN A = false ∧ av = .float .f64 A ∧ kv = .int .i64 j ∧ iv = .int .u8 j ∧ j ≤ 63) (fun _ _ iv => 64 - (intOf iv).toNat)
  case atStart => exact ⟨a, 0, ha, NA.out, rfl, rfl, rfl, by omega⟩
  case round =>
    obtain ⟨A, j, hA, nA, rfl, rfl, rfl, hj⟩ := hrel
    clear h1 h2 h3 h4 h5 h6 h7 h8 h9 h10 hf
    by_cases hlt : (j : Int) < n % 64
    · cases fA : fin A
      · have FA := hid fA
        clear fA
        go_wp2_with fail
        refine (finite_no A _ hA FA.out).mono ?_
        rintro e w' ⟨rfl, rfl⟩
        go_wp2
        go_ret
        exact ⟨by simp; omega, (Grown.refl _).drew⟩
      · have FA := hid fA
        clear fA
        have fAA : feq A A = true := by rw [feq_self A hA, nA]; rfl
        obtain ⟨U, d, is, e0, was, hU, lU, nU, b1, b2, b3, b4, hde⟩ := round_fact A c hA nA FA.out
        have HU := hid hU
        have B1 := hid b1
        have B2 := hid b2
        have B3 := hid b3
        have B4 := hid b4
        have NU := hid nU
        clear hU b1 b2 b3 b4 nU nA
        cases is
        · clear hde
          go_wp2_with fail
          refine (finite_yes A _ hA FA.out).mono ?_
          rintro e w' ⟨rfl, rfl⟩
          go_wp2_with fail
          refine (up_at A U _ hA HU.out).mono ?_
          rintro e w' ⟨rfl, rfl⟩
          go_wp2_with fail
          refine (between_at c U d _ _ hc lU B1.out B2.out).mono ?_
          rintro e w' ⟨rfl, rfl⟩
          go_wp2_with fail
          refine (between_at c A e0 _ _ hc hA B3.out B4.out).mono ?_
          rintro e w' ⟨rfl, rfl⟩
          go_wp2
          go_round
          case rel => exact ⟨U, j + 1, lU, NU.out, rfl, by go_num, by go_num, by omega⟩
          case measure => simp [intOf]; omega
        · cases was
          · clear hde
            go_wp2_with fail
            refine (finite_yes A _ hA FA.out).mono ?_
            rintro e w' ⟨rfl, rfl⟩
            go_wp2_with fail
            refine (up_at A U _ hA HU.out).mono ?_
            rintro e w' ⟨rfl, rfl⟩
            go_wp2_with fail
            refine (between_at c U d _ _ hc lU B1.out B2.out).mono ?_
            rintro e w' ⟨rfl, rfl⟩
            go_wp2_with fail
            refine (between_at c A e0 _ _ hc hA B3.out B4.out).mono ?_
            rintro e w' ⟨rfl, rfl⟩
            go_wp2
            go_round
            case rel => exact ⟨U, j + 1, lU, NU.out, rfl, by go_num, by go_num, by omega⟩
            case measure => simp [intOf]; omega
          · have hd2 := hde rfl rfl
            clear hde
            go_wp2_with fail
            refine (finite_yes A _ hA FA.out).mono ?_
            rintro e w' ⟨rfl, rfl⟩
            go_wp2_with fail
            refine (up_at A U _ hA HU.out).mono ?_
            rintro e w' ⟨rfl, rfl⟩
            go_wp2_with fail
            refine (between_at c U d _ _ hc lU B1.out B2.out).mono ?_
            rintro e w' ⟨rfl, rfl⟩
            go_wp2_with fail
            refine (between_at c A e0 _ _ hc hA B3.out B4.out).mono ?_
            rintro e w' ⟨rfl, rfl⟩
            go_wp2
            go_round
            case rel => exact ⟨U, j + 1, lU, NU.out, rfl, by go_num, by go_num, by omega⟩
            case measure => simp [intOf]; omega
    · go_wp2
      go_ret
      exact ⟨by simp; omega, Grown.refl _⟩
set_option maxHeartbeats 2000000 in
set_option maxRecDepth 100000 in
theorem sn1 (a b c : Nat) (n x y z s v : Int) (ok also too fit back : Bool) (w : World) (ha : a < 18446744073709551616) (hb : b < 18446744073709551616) (hc : c < 18446744073709551616)
    (h1 : Hid (betB a b = x)) (h2 : Hid (betOk a b = ok)) (h3 : Hid (betB b c = y)) (h4 : Hid (betOk b c = also)) (h5 : Hid (betB a c = z)) (h6 : Hid (betOk a c = too)) (h7 : Hid (wrap64 (x + y) = s)) (h8 : Hid (fitB x y = fit)) (h9 : Hid (betB b a = v)) (h10 : Hid (betOk b a = back)) (hf : Hid (fin a = false))
    (e1 : ok = false) (e2 : (x != 0) = false) (f1 : feq a a = true) (f2 : feq b b = false) :
    Calls Try.prog 7 #[.float .f64 a, .float .f64 b, .float .f64 c, .int .u8 n] w fun e w' => e = .returned (.bool true) ∧ Grown w w' := by
  subst e1
  go_enter Try.func7, Try.ntmps7
  go_wp2_with fail
  refine (lives_any _).mono ?_
  rintro e w' ⟨rfl, rfl⟩
  go_wp2_with fail
  refine (between_at a b x _ _ ha hb h1.out h2.out).mono ?_
  rintro e w' ⟨rfl, rfl⟩
  go_wp2_with fail
  refine (between_at b c y _ _ hb hc h3.out h4.out).mono ?_
  rintro e w' ⟨rfl, rfl⟩
  go_wp2_with fail
  refine (between_at a c z _ _ ha hc h5.out h6.out).mono ?_
  rintro e w' ⟨rfl, rfl⟩
  go_wp2_with fail
  refine (fits_any x y s _ _ h7.out h8).mono ?_
  rintro e w' ⟨rfl, rfl⟩
  go_wp2_with fail
  refine (between_at b a v _ _ hb ha h9.out h10.out).mono ?_
  rintro e w' ⟨rfl, rfl⟩
  go_wp2_with fail
  refine (finite_no a _ ha hf.out).mono ?_
  rintro e w' ⟨rfl, rfl⟩
  go_wp2
  go_ret
  exact ⟨rfl, (Grown.refl _).drew⟩
set_option maxHeartbeats 2000000 in
set_option maxRecDepth 100000 in
theorem ln2 (a b c : Nat) (n x y z s v : Int) (ok also too fit back : Bool) (w : World) (ha : a < 18446744073709551616) (hb : b < 18446744073709551616) (hc : c < 18446744073709551616) (hn0 : 0 ≤ n) (hn : n ≤ 255)
    (h1 : Hid (betB a b = x)) (h2 : Hid (betOk a b = ok)) (h3 : Hid (betB b c = y)) (h4 : Hid (betOk b c = also)) (h5 : Hid (betB a c = z)) (h6 : Hid (betOk a c = too)) (h7 : Hid (wrap64 (x + y) = s)) (h8 : Hid (fitB x y = fit)) (h9 : Hid (betB b a = v)) (h10 : Hid (betOk b a = back)) (NA : Hid (isN a = false)) (hf : Hid (fin a = true))
    (e1 : ok = false) (e2 : (x != 0) = false) (f1 : feq a a = true) (f2 : feq b b = true) :
    Calls Try.prog 7 #[.float .f64 a, .float .f64 b, .float .f64 c, .int .u8 n] w fun e w' => e = .returned (.bool true) ∧ Grown w w' := by
  subst e1
  go_enter Try.func7, Try.ntmps7
  go_wp2_with fail
  refine (lives_any _).mono ?_
  rintro e w' ⟨rfl, rfl⟩
  go_wp2_with fail
  refine (between_at a b x _ _ ha hb h1.out h2.out).mono ?_
  rintro e w' ⟨rfl, rfl⟩
  go_wp2_with fail
  refine (between_at b c y _ _ hb hc h3.out h4.out).mono ?_
  rintro e w' ⟨rfl, rfl⟩
  go_wp2_with fail
  refine (between_at a c z _ _ ha hc h5.out h6.out).mono ?_
  rintro e w' ⟨rfl, rfl⟩
  go_wp2_with fail
  refine (fits_any x y s _ _ h7.out h8).mono ?_
  rintro e w' ⟨rfl, rfl⟩
  go_wp2_with fail
  refine (between_at b a v _ _ hb ha h9.out h10.out).mono ?_
  rintro e w' ⟨rfl, rfl⟩
  go_wp2_with fail
  refine (finite_yes a _ ha hf.out).mono ?_
  rintro e w' ⟨rfl, rfl⟩
  go_wp2
  go_loop [0, 19, 20] (fun av kv iv => ∃ A j : Nat, A < 18446744073709551616 ∧ isN A = false ∧ av = .float .f64 A ∧ kv = .int .i64 j ∧ iv = .int .u8 j ∧ j ≤ 63) (fun _ _ iv => 64 - (intOf iv).toNat)
  case atStart => exact ⟨a, 0, ha, NA.out, rfl, rfl, rfl, by omega⟩
  case round =>
    obtain ⟨A, j, hA, nA, rfl, rfl, rfl, hj⟩ := hrel
    clear h1 h2 h3 h4 h5 h6 h7 h8 h9 h10 hf
    by_cases hlt : (j : Int) < n % 64
    · cases fA : fin A
      · have FA := hid fA
        clear fA
        go_wp2_with fail
        refine (finite_no A _ hA FA.out).mono ?_
        rintro e w' ⟨rfl, rfl⟩
        go_wp2
        go_ret
        exact ⟨by simp; omega, (Grown.refl _).drew⟩
      · have FA := hid fA
        clear fA
        have fAA : feq A A = true := by rw [feq_self A hA, nA]; rfl
        obtain ⟨U, d, is, e0, was, hU, lU, nU, b1, b2, b3, b4, hde⟩ := round_fact A c hA nA FA.out
        have HU := hid hU
        have B1 := hid b1
        have B2 := hid b2
        have B3 := hid b3
        have B4 := hid b4
        have NU := hid nU
        clear hU b1 b2 b3 b4 nU nA
        cases is
        · clear hde
          go_wp2_with fail
          refine (finite_yes A _ hA FA.out).mono ?_
          rintro e w' ⟨rfl, rfl⟩
          go_wp2_with fail
          refine (up_at A U _ hA HU.out).mono ?_
          rintro e w' ⟨rfl, rfl⟩
          go_wp2_with fail
          refine (between_at c U d _ _ hc lU B1.out B2.out).mono ?_
          rintro e w' ⟨rfl, rfl⟩
          go_wp2_with fail
          refine (between_at c A e0 _ _ hc hA B3.out B4.out).mono ?_
          rintro e w' ⟨rfl, rfl⟩
          go_wp2
          go_round
          case rel => exact ⟨U, j + 1, lU, NU.out, rfl, by go_num, by go_num, by omega⟩
          case measure => simp [intOf]; omega
        · cases was
          · clear hde
            go_wp2_with fail
            refine (finite_yes A _ hA FA.out).mono ?_
            rintro e w' ⟨rfl, rfl⟩
            go_wp2_with fail
            refine (up_at A U _ hA HU.out).mono ?_
            rintro e w' ⟨rfl, rfl⟩
            go_wp2_with fail
            refine (between_at c U d _ _ hc lU B1.out B2.out).mono ?_
            rintro e w' ⟨rfl, rfl⟩
            go_wp2_with fail
            refine (between_at c A e0 _ _ hc hA B3.out B4.out).mono ?_
            rintro e w' ⟨rfl, rfl⟩
            go_wp2
            go_round
            case rel => exact ⟨U, j + 1, lU, NU.out, rfl, by go_num, by go_num, by omega⟩
            case measure => simp [intOf]; omega
          · have hd2 := hde rfl rfl
            clear hde
            go_wp2_with fail
            refine (finite_yes A _ hA FA.out).mono ?_
            rintro e w' ⟨rfl, rfl⟩
            go_wp2_with fail
            refine (up_at A U _ hA HU.out).mono ?_
            rintro e w' ⟨rfl, rfl⟩
            go_wp2_with fail
            refine (between_at c U d _ _ hc lU B1.out B2.out).mono ?_
            rintro e w' ⟨rfl, rfl⟩
            go_wp2_with fail
            refine (between_at c A e0 _ _ hc hA B3.out B4.out).mono ?_
            rintro e w' ⟨rfl, rfl⟩
            go_wp2
            go_round
            case rel => exact ⟨U, j + 1, lU, NU.out, rfl, by go_num, by go_num, by omega⟩
            case measure => simp [intOf]; omega
    · go_wp2
      go_ret
      exact ⟨by simp; omega, Grown.refl _⟩
set_option maxHeartbeats 2000000 in
set_option maxRecDepth 100000 in
theorem sn2 (a b c : Nat) (n x y z s v : Int) (ok also too fit back : Bool) (w : World) (ha : a < 18446744073709551616) (hb : b < 18446744073709551616) (hc : c < 18446744073709551616)
    (h1 : Hid (betB a b = x)) (h2 : Hid (betOk a b = ok)) (h3 : Hid (betB b c = y)) (h4 : Hid (betOk b c = also)) (h5 : Hid (betB a c = z)) (h6 : Hid (betOk a c = too)) (h7 : Hid (wrap64 (x + y) = s)) (h8 : Hid (fitB x y = fit)) (h9 : Hid (betB b a = v)) (h10 : Hid (betOk b a = back)) (hf : Hid (fin a = false))
    (e1 : ok = false) (e2 : (x != 0) = false) (f1 : feq a a = true) (f2 : feq b b = true) :
    Calls Try.prog 7 #[.float .f64 a, .float .f64 b, .float .f64 c, .int .u8 n] w fun e w' => e = .returned (.bool true) ∧ Grown w w' := by
  subst e1
  go_enter Try.func7, Try.ntmps7
  go_wp2_with fail
  refine (lives_any _).mono ?_
  rintro e w' ⟨rfl, rfl⟩
  go_wp2_with fail
  refine (between_at a b x _ _ ha hb h1.out h2.out).mono ?_
  rintro e w' ⟨rfl, rfl⟩
  go_wp2_with fail
  refine (between_at b c y _ _ hb hc h3.out h4.out).mono ?_
  rintro e w' ⟨rfl, rfl⟩
  go_wp2_with fail
  refine (between_at a c z _ _ ha hc h5.out h6.out).mono ?_
  rintro e w' ⟨rfl, rfl⟩
  go_wp2_with fail
  refine (fits_any x y s _ _ h7.out h8).mono ?_
  rintro e w' ⟨rfl, rfl⟩
  go_wp2_with fail
  refine (between_at b a v _ _ hb ha h9.out h10.out).mono ?_
  rintro e w' ⟨rfl, rfl⟩
  go_wp2_with fail
  refine (finite_no a _ ha hf.out).mono ?_
  rintro e w' ⟨rfl, rfl⟩
  go_wp2
  go_ret
  exact ⟨rfl, (Grown.refl _).drew⟩
set_option maxHeartbeats 2000000 in
set_option maxRecDepth 100000 in
theorem ly00 (a b c : Nat) (n x y z s v : Int) (ok also too fit back : Bool) (w : World) (ha : a < 18446744073709551616) (hb : b < 18446744073709551616) (hc : c < 18446744073709551616) (hn0 : 0 ≤ n) (hn : n ≤ 255)
    (h1 : Hid (betB a b = x)) (h2 : Hid (betOk a b = ok)) (h3 : Hid (betB b c = y)) (h4 : Hid (betOk b c = also)) (h5 : Hid (betB a c = z)) (h6 : Hid (betOk a c = too)) (h7 : Hid (wrap64 (x + y) = s)) (h8 : Hid (fitB x y = fit)) (h9 : Hid (betB b a = v)) (h10 : Hid (betOk b a = back)) (NA : Hid (isN a = false)) (hf : Hid (fin a = true))
    (e1 : ok = true) (f1 : feq a a = true) (f2 : feq b b = true) (a1 : also = false) (c1 : back = true) (c2 : wrap64 (-x) = v) (c3 : decide (0 < x) = true) :
    Calls Try.prog 7 #[.float .f64 a, .float .f64 b, .float .f64 c, .int .u8 n] w fun e w' => e = .returned (.bool true) ∧ Grown w w' := by
  subst e1
  subst a1
  subst c1
  go_enter Try.func7, Try.ntmps7
  go_wp2_with fail
  refine (lives_any _).mono ?_
  rintro e w' ⟨rfl, rfl⟩
  go_wp2_with fail
  refine (between_at a b x _ _ ha hb h1.out h2.out).mono ?_
  rintro e w' ⟨rfl, rfl⟩
  go_wp2_with fail
  refine (between_at b c y _ _ hb hc h3.out h4.out).mono ?_
  rintro e w' ⟨rfl, rfl⟩
  go_wp2_with fail
  refine (between_at a c z _ _ ha hc h5.out h6.out).mono ?_
  rintro e w' ⟨rfl, rfl⟩
  go_wp2_with fail
  refine (fits_any x y s _ _ h7.out h8).mono ?_
  rintro e w' ⟨rfl, rfl⟩
  go_wp2_with fail
  refine (between_at b a v _ _ hb ha h9.out h10.out).mono ?_
  rintro e w' ⟨rfl, rfl⟩
  go_wp2_with fail
  refine (finite_yes a _ ha hf.out).mono ?_
  rintro e w' ⟨rfl, rfl⟩
  go_wp2
  go_loop [0, 19, 20] (fun av kv iv => ∃ A j : Nat, A < 18446744073709551616 ∧ isN A = false ∧ av = .float .f64 A ∧ kv = .int .i64 j ∧ iv = .int .u8 j ∧ j ≤ 63) (fun _ _ iv => 64 - (intOf iv).toNat)
  case atStart => exact ⟨a, 0, ha, NA.out, rfl, rfl, rfl, by omega⟩
  case round =>
    obtain ⟨A, j, hA, nA, rfl, rfl, rfl, hj⟩ := hrel
    clear h1 h2 h3 h4 h5 h6 h7 h8 h9 h10 hf
    by_cases hlt : (j : Int) < n % 64
    · cases fA : fin A
      · have FA := hid fA
        clear fA
        go_wp2_with fail
        refine (finite_no A _ hA FA.out).mono ?_
        rintro e w' ⟨rfl, rfl⟩
        go_wp2
        go_ret
        exact ⟨by simp; omega, (Grown.refl _).drew⟩
      · have FA := hid fA
        clear fA
        have fAA : feq A A = true := by rw [feq_self A hA, nA]; rfl
        obtain ⟨U, d, is, e0, was, hU, lU, nU, b1, b2, b3, b4, hde⟩ := round_fact A c hA nA FA.out
        have HU := hid hU
        have B1 := hid b1
        have B2 := hid b2
        have B3 := hid b3
        have B4 := hid b4
        have NU := hid nU
        clear hU b1 b2 b3 b4 nU nA
        cases is
        · clear hde
          go_wp2_with fail
          refine (finite_yes A _ hA FA.out).mono ?_
          rintro e w' ⟨rfl, rfl⟩
          go_wp2_with fail
          refine (up_at A U _ hA HU.out).mono ?_
          rintro e w' ⟨rfl, rfl⟩
          go_wp2_with fail
          refine (between_at c U d _ _ hc lU B1.out B2.out).mono ?_
          rintro e w' ⟨rfl, rfl⟩
          go_wp2_with fail
          refine (between_at c A e0 _ _ hc hA B3.out B4.out).mono ?_
          rintro e w' ⟨rfl, rfl⟩
          go_wp2
          go_round
          case rel => exact ⟨U, j + 1, lU, NU.out, rfl, by go_num, by go_num, by omega⟩
          case measure => simp [intOf]; omega
        · cases was
          · clear hde
            go_wp2_with fail
            refine (finite_yes A _ hA FA.out).mono ?_
            rintro e w' ⟨rfl, rfl⟩
            go_wp2_with fail
            refine (up_at A U _ hA HU.out).mono ?_
            rintro e w' ⟨rfl, rfl⟩
            go_wp2_with fail
            refine (between_at c U d _ _ hc lU B1.out B2.out).mono ?_
            rintro e w' ⟨rfl, rfl⟩
            go_wp2_with fail
            refine (between_at c A e0 _ _ hc hA B3.out B4.out).mono ?_
            rintro e w' ⟨rfl, rfl⟩
            go_wp2
            go_round
            case rel => exact ⟨U, j + 1, lU, NU.out, rfl, by go_num, by go_num, by omega⟩
            case measure => simp [intOf]; omega
          · have hd2 := hde rfl rfl
            clear hde
            go_wp2_with fail
            refine (finite_yes A _ hA FA.out).mono ?_
            rintro e w' ⟨rfl, rfl⟩
            go_wp2_with fail
            refine (up_at A U _ hA HU.out).mono ?_
            rintro e w' ⟨rfl, rfl⟩
            go_wp2_with fail
            refine (between_at c U d _ _ hc lU B1.out B2.out).mono ?_
            rintro e w' ⟨rfl, rfl⟩
            go_wp2_with fail
            refine (between_at c A e0 _ _ hc hA B3.out B4.out).mono ?_
            rintro e w' ⟨rfl, rfl⟩
            go_wp2
            go_round
            case rel => exact ⟨U, j + 1, lU, NU.out, rfl, by go_num, by go_num, by omega⟩
            case measure => simp [intOf]; omega
    · go_wp2
      go_ret
      exact ⟨by simp; omega, Grown.refl _⟩
set_option maxHeartbeats 2000000 in
set_option maxRecDepth 100000 in
theorem sy00 (a b c : Nat) (n x y z s v : Int) (ok also too fit back : Bool) (w : World) (ha : a < 18446744073709551616) (hb : b < 18446744073709551616) (hc : c < 18446744073709551616)
    (h1 : Hid (betB a b = x)) (h2 : Hid (betOk a b = ok)) (h3 : Hid (betB b c = y)) (h4 : Hid (betOk b c = also)) (h5 : Hid (betB a c = z)) (h6 : Hid (betOk a c = too)) (h7 : Hid (wrap64 (x + y) = s)) (h8 : Hid (fitB x y = fit)) (h9 : Hid (betB b a = v)) (h10 : Hid (betOk b a = back)) (hf : Hid (fin a = false))
    (e1 : ok = true) (f1 : feq a a = true) (f2 : feq b b = true) (a1 : also = false) (c1 : back = true) (c2 : wrap64 (-x) = v) (c3 : decide (0 < x) = true) :
    Calls Try.prog 7 #[.float .f64 a, .float .f64 b, .float .f64 c, .int .u8 n] w fun e w' => e = .returned (.bool true) ∧ Grown w w' := by
  subst e1
  subst a1
  subst c1
  go_enter Try.func7, Try.ntmps7
  go_wp2_with fail
  refine (lives_any _).mono ?_
  rintro e w' ⟨rfl, rfl⟩
  go_wp2_with fail
  refine (between_at a b x _ _ ha hb h1.out h2.out).mono ?_
  rintro e w' ⟨rfl, rfl⟩
  go_wp2_with fail
  refine (between_at b c y _ _ hb hc h3.out h4.out).mono ?_
  rintro e w' ⟨rfl, rfl⟩
  go_wp2_with fail
  refine (between_at a c z _ _ ha hc h5.out h6.out).mono ?_
  rintro e w' ⟨rfl, rfl⟩
  go_wp2_with fail
  refine (fits_any x y s _ _ h7.out h8).mono ?_
  rintro e w' ⟨rfl, rfl⟩
  go_wp2_with fail
  refine (between_at b a v _ _ hb ha h9.out h10.out).mono ?_
  rintro e w' ⟨rfl, rfl⟩
  go_wp2_with fail
  refine (finite_no a _ ha hf.out).mono ?_
  rintro e w' ⟨rfl, rfl⟩
  go_wp2
  go_ret
  exact ⟨rfl, (Grown.refl _).drew⟩
set_option maxHeartbeats 2000000 in
set_option maxRecDepth 100000 in
theorem ly01 (a b c : Nat) (n x y z s v : Int) (ok also too fit back : Bool) (w : World) (ha : a < 18446744073709551616) (hb : b < 18446744073709551616) (hc : c < 18446744073709551616) (hn0 : 0 ≤ n) (hn : n ≤ 255)
    (h1 : Hid (betB a b = x)) (h2 : Hid (betOk a b = ok)) (h3 : Hid (betB b c = y)) (h4 : Hid (betOk b c = also)) (h5 : Hid (betB a c = z)) (h6 : Hid (betOk a c = too)) (h7 : Hid (wrap64 (x + y) = s)) (h8 : Hid (fitB x y = fit)) (h9 : Hid (betB b a = v)) (h10 : Hid (betOk b a = back)) (NA : Hid (isN a = false)) (hf : Hid (fin a = true))
    (e1 : ok = true) (f1 : feq a a = true) (f2 : feq b b = true) (a1 : also = false) (c1 : back = true) (c2 : wrap64 (-x) = v) (c3 : decide (0 < x) = false) :
    Calls Try.prog 7 #[.float .f64 a, .float .f64 b, .float .f64 c, .int .u8 n] w fun e w' => e = .returned (.bool true) ∧ Grown w w' := by
  subst e1
  subst a1
  subst c1
  go_enter Try.func7, Try.ntmps7
  go_wp2_with fail
  refine (lives_any _).mono ?_
  rintro e w' ⟨rfl, rfl⟩
  go_wp2_with fail
  refine (between_at a b x _ _ ha hb h1.out h2.out).mono ?_
  rintro e w' ⟨rfl, rfl⟩
  go_wp2_with fail
  refine (between_at b c y _ _ hb hc h3.out h4.out).mono ?_
  rintro e w' ⟨rfl, rfl⟩
  go_wp2_with fail
  refine (between_at a c z _ _ ha hc h5.out h6.out).mono ?_
  rintro e w' ⟨rfl, rfl⟩
  go_wp2_with fail
  refine (fits_any x y s _ _ h7.out h8).mono ?_
  rintro e w' ⟨rfl, rfl⟩
  go_wp2_with fail
  refine (between_at b a v _ _ hb ha h9.out h10.out).mono ?_
  rintro e w' ⟨rfl, rfl⟩
  go_wp2_with fail
  refine (finite_yes a _ ha hf.out).mono ?_
  rintro e w' ⟨rfl, rfl⟩
  go_wp2
  go_loop [0, 19, 20] (fun av kv iv => ∃ A j : Nat, A < 18446744073709551616 ∧ isN A = false ∧ av = .float .f64 A ∧ kv = .int .i64 j ∧ iv = .int .u8 j ∧ j ≤ 63) (fun _ _ iv => 64 - (intOf iv).toNat)
  case atStart => exact ⟨a, 0, ha, NA.out, rfl, rfl, rfl, by omega⟩
  case round =>
    obtain ⟨A, j, hA, nA, rfl, rfl, rfl, hj⟩ := hrel
    clear h1 h2 h3 h4 h5 h6 h7 h8 h9 h10 hf
    by_cases hlt : (j : Int) < n % 64
    · cases fA : fin A
      · have FA := hid fA
        clear fA
        go_wp2_with fail
        refine (finite_no A _ hA FA.out).mono ?_
        rintro e w' ⟨rfl, rfl⟩
        go_wp2
        go_ret
        exact ⟨by simp; omega, (Grown.refl _).drew⟩
      · have FA := hid fA
        clear fA
        have fAA : feq A A = true := by rw [feq_self A hA, nA]; rfl
        obtain ⟨U, d, is, e0, was, hU, lU, nU, b1, b2, b3, b4, hde⟩ := round_fact A c hA nA FA.out
        have HU := hid hU
        have B1 := hid b1
        have B2 := hid b2
        have B3 := hid b3
        have B4 := hid b4
        have NU := hid nU
        clear hU b1 b2 b3 b4 nU nA
        cases is
        · clear hde
          go_wp2_with fail
          refine (finite_yes A _ hA FA.out).mono ?_
          rintro e w' ⟨rfl, rfl⟩
          go_wp2_with fail
          refine (up_at A U _ hA HU.out).mono ?_
          rintro e w' ⟨rfl, rfl⟩
          go_wp2_with fail
          refine (between_at c U d _ _ hc lU B1.out B2.out).mono ?_
          rintro e w' ⟨rfl, rfl⟩
          go_wp2_with fail
          refine (between_at c A e0 _ _ hc hA B3.out B4.out).mono ?_
          rintro e w' ⟨rfl, rfl⟩
          go_wp2
          go_round
          case rel => exact ⟨U, j + 1, lU, NU.out, rfl, by go_num, by go_num, by omega⟩
          case measure => simp [intOf]; omega
        · cases was
          · clear hde
            go_wp2_with fail
            refine (finite_yes A _ hA FA.out).mono ?_
            rintro e w' ⟨rfl, rfl⟩
            go_wp2_with fail
            refine (up_at A U _ hA HU.out).mono ?_
            rintro e w' ⟨rfl, rfl⟩
            go_wp2_with fail
            refine (between_at c U d _ _ hc lU B1.out B2.out).mono ?_
            rintro e w' ⟨rfl, rfl⟩
            go_wp2_with fail
            refine (between_at c A e0 _ _ hc hA B3.out B4.out).mono ?_
            rintro e w' ⟨rfl, rfl⟩
            go_wp2
            go_round
            case rel => exact ⟨U, j + 1, lU, NU.out, rfl, by go_num, by go_num, by omega⟩
            case measure => simp [intOf]; omega
          · have hd2 := hde rfl rfl
            clear hde
            go_wp2_with fail
            refine (finite_yes A _ hA FA.out).mono ?_
            rintro e w' ⟨rfl, rfl⟩
            go_wp2_with fail
            refine (up_at A U _ hA HU.out).mono ?_
            rintro e w' ⟨rfl, rfl⟩
            go_wp2_with fail
            refine (between_at c U d _ _ hc lU B1.out B2.out).mono ?_
            rintro e w' ⟨rfl, rfl⟩
            go_wp2_with fail
            refine (between_at c A e0 _ _ hc hA B3.out B4.out).mono ?_
            rintro e w' ⟨rfl, rfl⟩
            go_wp2
            go_round
            case rel => exact ⟨U, j + 1, lU, NU.out, rfl, by go_num, by go_num, by omega⟩
            case measure => simp [intOf]; omega
    · go_wp2
      go_ret
      exact ⟨by simp; omega, Grown.refl _⟩
set_option maxHeartbeats 2000000 in
set_option maxRecDepth 100000 in
theorem sy01 (a b c : Nat) (n x y z s v : Int) (ok also too fit back : Bool) (w : World) (ha : a < 18446744073709551616) (hb : b < 18446744073709551616) (hc : c < 18446744073709551616)
    (h1 : Hid (betB a b = x)) (h2 : Hid (betOk a b = ok)) (h3 : Hid (betB b c = y)) (h4 : Hid (betOk b c = also)) (h5 : Hid (betB a c = z)) (h6 : Hid (betOk a c = too)) (h7 : Hid (wrap64 (x + y) = s)) (h8 : Hid (fitB x y = fit)) (h9 : Hid (betB b a = v)) (h10 : Hid (betOk b a = back)) (hf : Hid (fin a = false))
    (e1 : ok = true) (f1 : feq a a = true) (f2 : feq b b = true) (a1 : also = false) (c1 : back = true) (c2 : wrap64 (-x) = v) (c3 : decide (0 < x) = false) :
    Calls Try.prog 7 #[.float .f64 a, .float .f64 b, .float .f64 c, .int .u8 n] w fun e w' => e = .returned (.bool true) ∧ Grown w w' := by
  subst e1
  subst a1
  subst c1
  go_enter Try.func7, Try.ntmps7
  go_wp2_with fail
  refine (lives_any _).mono ?_
  rintro e w' ⟨rfl, rfl⟩
  go_wp2_with fail
  refine (between_at a b x _ _ ha hb h1.out h2.out).mono ?_
  rintro e w' ⟨rfl, rfl⟩
  go_wp2_with fail
  refine (between_at b c y _ _ hb hc h3.out h4.out).mono ?_
  rintro e w' ⟨rfl, rfl⟩
  go_wp2_with fail
  refine (between_at a c z _ _ ha hc h5.out h6.out).mono ?_
  rintro e w' ⟨rfl, rfl⟩
  go_wp2_with fail
  refine (fits_any x y s _ _ h7.out h8).mono ?_
  rintro e w' ⟨rfl, rfl⟩
  go_wp2_with fail
  refine (between_at b a v _ _ hb ha h9.out h10.out).mono ?_
  rintro e w' ⟨rfl, rfl⟩
  go_wp2_with fail
  refine (finite_no a _ ha hf.out).mono ?_
  rintro e w' ⟨rfl, rfl⟩
  go_wp2
  go_ret
  exact ⟨rfl, (Grown.refl _).drew⟩
set_option maxHeartbeats 2000000 in
set_option maxRecDepth 100000 in
theorem ly02 (a b c : Nat) (n x y z s v : Int) (ok also too fit back : Bool) (w : World) (ha : a < 18446744073709551616) (hb : b < 18446744073709551616) (hc : c < 18446744073709551616) (hn0 : 0 ≤ n) (hn : n ≤ 255)
    (h1 : Hid (betB a b = x)) (h2 : Hid (betOk a b = ok)) (h3 : Hid (betB b c = y)) (h4 : Hid (betOk b c = also)) (h5 : Hid (betB a c = z)) (h6 : Hid (betOk a c = too)) (h7 : Hid (wrap64 (x + y) = s)) (h8 : Hid (fitB x y = fit)) (h9 : Hid (betB b a = v)) (h10 : Hid (betOk b a = back)) (NA : Hid (isN a = false)) (hf : Hid (fin a = true))
    (e1 : ok = true) (f1 : feq a a = true) (f2 : feq b b = true) (a1 : also = false) (c1 : back = false) (c3 : decide (0 < x) = false) :
    Calls Try.prog 7 #[.float .f64 a, .float .f64 b, .float .f64 c, .int .u8 n] w fun e w' => e = .returned (.bool true) ∧ Grown w w' := by
  subst e1
  subst a1
  subst c1
  go_enter Try.func7, Try.ntmps7
  go_wp2_with fail
  refine (lives_any _).mono ?_
  rintro e w' ⟨rfl, rfl⟩
  go_wp2_with fail
  refine (between_at a b x _ _ ha hb h1.out h2.out).mono ?_
  rintro e w' ⟨rfl, rfl⟩
  go_wp2_with fail
  refine (between_at b c y _ _ hb hc h3.out h4.out).mono ?_
  rintro e w' ⟨rfl, rfl⟩
  go_wp2_with fail
  refine (between_at a c z _ _ ha hc h5.out h6.out).mono ?_
  rintro e w' ⟨rfl, rfl⟩
  go_wp2_with fail
  refine (fits_any x y s _ _ h7.out h8).mono ?_
  rintro e w' ⟨rfl, rfl⟩
  go_wp2_with fail
  refine (between_at b a v _ _ hb ha h9.out h10.out).mono ?_
  rintro e w' ⟨rfl, rfl⟩
  go_wp2_with fail
  refine (finite_yes a _ ha hf.out).mono ?_
  rintro e w' ⟨rfl, rfl⟩
  go_wp2
  go_loop [0, 19, 20] (fun av kv iv => ∃ A j : Nat, A < 18446744073709551616 ∧ isN A = false ∧ av = .float .f64 A ∧ kv = .int .i64 j ∧ iv = .int .u8 j ∧ j ≤ 63) (fun _ _ iv => 64 - (intOf iv).toNat)
  case atStart => exact ⟨a, 0, ha, NA.out, rfl, rfl, rfl, by omega⟩
  case round =>
    obtain ⟨A, j, hA, nA, rfl, rfl, rfl, hj⟩ := hrel
    clear h1 h2 h3 h4 h5 h6 h7 h8 h9 h10 hf
    by_cases hlt : (j : Int) < n % 64
    · cases fA : fin A
      · have FA := hid fA
        clear fA
        go_wp2_with fail
        refine (finite_no A _ hA FA.out).mono ?_
        rintro e w' ⟨rfl, rfl⟩
        go_wp2
        go_ret
        exact ⟨by simp; omega, (Grown.refl _).drew⟩
      · have FA := hid fA
        clear fA
        have fAA : feq A A = true := by rw [feq_self A hA, nA]; rfl
        obtain ⟨U, d, is, e0, was, hU, lU, nU, b1, b2, b3, b4, hde⟩ := round_fact A c hA nA FA.out
        have HU := hid hU
        have B1 := hid b1
        have B2 := hid b2
        have B3 := hid b3
        have B4 := hid b4
        have NU := hid nU
        clear hU b1 b2 b3 b4 nU nA
        cases is
        · clear hde
          go_wp2_with fail
          refine (finite_yes A _ hA FA.out).mono ?_
          rintro e w' ⟨rfl, rfl⟩
          go_wp2_with fail
          refine (up_at A U _ hA HU.out).mono ?_
          rintro e w' ⟨rfl, rfl⟩
          go_wp2_with fail
          refine (between_at c U d _ _ hc lU B1.out B2.out).mono ?_
          rintro e w' ⟨rfl, rfl⟩
          go_wp2_with fail
          refine (between_at c A e0 _ _ hc hA B3.out B4.out).mono ?_
          rintro e w' ⟨rfl, rfl⟩
          go_wp2
          go_round
          case rel => exact ⟨U, j + 1, lU, NU.out, rfl, by go_num, by go_num, by omega⟩
          case measure => simp [intOf]; omega
        · cases was
          · clear hde
            go_wp2_with fail
            refine (finite_yes A _ hA FA.out).mono ?_
            rintro e w' ⟨rfl, rfl⟩
            go_wp2_with fail
            refine (up_at A U _ hA HU.out).mono ?_
            rintro e w' ⟨rfl, rfl⟩
            go_wp2_with fail
            refine (between_at c U d _ _ hc lU B1.out B2.out).mono ?_
            rintro e w' ⟨rfl, rfl⟩
            go_wp2_with fail
            refine (between_at c A e0 _ _ hc hA B3.out B4.out).mono ?_
            rintro e w' ⟨rfl, rfl⟩
            go_wp2
            go_round
            case rel => exact ⟨U, j + 1, lU, NU.out, rfl, by go_num, by go_num, by omega⟩
            case measure => simp [intOf]; omega
          · have hd2 := hde rfl rfl
            clear hde
            go_wp2_with fail
            refine (finite_yes A _ hA FA.out).mono ?_
            rintro e w' ⟨rfl, rfl⟩
            go_wp2_with fail
            refine (up_at A U _ hA HU.out).mono ?_
            rintro e w' ⟨rfl, rfl⟩
            go_wp2_with fail
            refine (between_at c U d _ _ hc lU B1.out B2.out).mono ?_
            rintro e w' ⟨rfl, rfl⟩
            go_wp2_with fail
            refine (between_at c A e0 _ _ hc hA B3.out B4.out).mono ?_
            rintro e w' ⟨rfl, rfl⟩
            go_wp2
            go_round
            case rel => exact ⟨U, j + 1, lU, NU.out, rfl, by go_num, by go_num, by omega⟩
            case measure => simp [intOf]; omega
    · go_wp2
      go_ret
      exact ⟨by simp; omega, Grown.refl _⟩
set_option maxHeartbeats 2000000 in
set_option maxRecDepth 100000 in
theorem sy02 (a b c : Nat) (n x y z s v : Int) (ok also too fit back : Bool) (w : World) (ha : a < 18446744073709551616) (hb : b < 18446744073709551616) (hc : c < 18446744073709551616)
    (h1 : Hid (betB a b = x)) (h2 : Hid (betOk a b = ok)) (h3 : Hid (betB b c = y)) (h4 : Hid (betOk b c = also)) (h5 : Hid (betB a c = z)) (h6 : Hid (betOk a c = too)) (h7 : Hid (wrap64 (x + y) = s)) (h8 : Hid (fitB x y = fit)) (h9 : Hid (betB b a = v)) (h10 : Hid (betOk b a = back)) (hf : Hid (fin a = false))
    (e1 : ok = true) (f1 : feq a a = true) (f2 : feq b b = true) (a1 : also = false) (c1 : back = false) (c3 : decide (0 < x) = false) :
    Calls Try.prog 7 #[.float .f64 a, .float .f64 b, .float .f64 c, .int .u8 n] w fun e w' => e = .returned (.bool true) ∧ Grown w w' := by
  subst e1
  subst a1
  subst c1
  go_enter Try.func7, Try.ntmps7
  go_wp2_with fail
  refine (lives_any _).mono ?_
  rintro e w' ⟨rfl, rfl⟩
  go_wp2_with fail
  refine (between_at a b x _ _ ha hb h1.out h2.out).mono ?_
  rintro e w' ⟨rfl, rfl⟩
  go_wp2_with fail
  refine (between_at b c y _ _ hb hc h3.out h4.out).mono ?_
  rintro e w' ⟨rfl, rfl⟩
  go_wp2_with fail
  refine (between_at a c z _ _ ha hc h5.out h6.out).mono ?_
  rintro e w' ⟨rfl, rfl⟩
  go_wp2_with fail
  refine (fits_any x y s _ _ h7.out h8).mono ?_
  rintro e w' ⟨rfl, rfl⟩
  go_wp2_with fail
  refine (between_at b a v _ _ hb ha h9.out h10.out).mono ?_
  rintro e w' ⟨rfl, rfl⟩
  go_wp2_with fail
  refine (finite_no a _ ha hf.out).mono ?_
  rintro e w' ⟨rfl, rfl⟩
  go_wp2
  go_ret
  exact ⟨rfl, (Grown.refl _).drew⟩
set_option maxHeartbeats 2000000 in
set_option maxRecDepth 100000 in
theorem ly10 (a b c : Nat) (n x y z s v : Int) (ok also too fit back : Bool) (w : World) (ha : a < 18446744073709551616) (hb : b < 18446744073709551616) (hc : c < 18446744073709551616) (hn0 : 0 ≤ n) (hn : n ≤ 255)
    (h1 : Hid (betB a b = x)) (h2 : Hid (betOk a b = ok)) (h3 : Hid (betB b c = y)) (h4 : Hid (betOk b c = also)) (h5 : Hid (betB a c = z)) (h6 : Hid (betOk a c = too)) (h7 : Hid (wrap64 (x + y) = s)) (h8 : Hid (fitB x y = fit)) (h9 : Hid (betB b a = v)) (h10 : Hid (betOk b a = back)) (NA : Hid (isN a = false)) (hf : Hid (fin a = true))
    (e1 : ok = true) (f1 : feq a a = true) (f2 : feq b b = true) (a1 : also = true) (a2 : too = false) (c1 : back = true) (c2 : wrap64 (-x) = v) (c3 : decide (0 < x) = true) :
    Calls Try.prog 7 #[.float .f64 a, .float .f64 b, .float .f64 c, .int .u8 n] w fun e w' => e = .returned (.bool true) ∧ Grown w w' := by
  subst e1
  subst a1 a2
  subst c1
  go_enter Try.func7, Try.ntmps7
  go_wp2_with fail
  refine (lives_any _).mono ?_
  rintro e w' ⟨rfl, rfl⟩
  go_wp2_with fail
  refine (between_at a b x _ _ ha hb h1.out h2.out).mono ?_
  rintro e w' ⟨rfl, rfl⟩
  go_wp2_with fail
  refine (between_at b c y _ _ hb hc h3.out h4.out).mono ?_
  rintro e w' ⟨rfl, rfl⟩
  go_wp2_with fail
  refine (between_at a c z _ _ ha hc h5.out h6.out).mono ?_
  rintro e w' ⟨rfl, rfl⟩
  go_wp2_with fail
  refine (fits_any x y s _ _ h7.out h8).mono ?_
  rintro e w' ⟨rfl, rfl⟩
  go_wp2_with fail
  refine (between_at b a v _ _ hb ha h9.out h10.out).mono ?_
  rintro e w' ⟨rfl, rfl⟩
  go_wp2_with fail
  refine (finite_yes a _ ha hf.out).mono ?_
  rintro e w' ⟨rfl, rfl⟩
  go_wp2
  go_loop [0, 19, 20] (fun av kv iv => ∃ A j : Nat, A < 18446744073709551616 ∧ isN A = false ∧ av = .float .f64 A ∧ kv = .int .i64 j ∧ iv = .int .u8 j ∧ j ≤ 63) (fun _ _ iv => 64 - (intOf iv).toNat)
  case atStart => exact ⟨a, 0, ha, NA.out, rfl, rfl, rfl, by omega⟩
  case round =>
    obtain ⟨A, j, hA, nA, rfl, rfl, rfl, hj⟩ := hrel
    clear h1 h2 h3 h4 h5 h6 h7 h8 h9 h10 hf
    by_cases hlt : (j : Int) < n % 64
    · cases fA : fin A
      · have FA := hid fA
        clear fA
        go_wp2_with fail
        refine (finite_no A _ hA FA.out).mono ?_
        rintro e w' ⟨rfl, rfl⟩
        go_wp2
        go_ret
        exact ⟨by simp; omega, (Grown.refl _).drew⟩
      · have FA := hid fA
        clear fA
        have fAA : feq A A = true := by rw [feq_self A hA, nA]; rfl
        obtain ⟨U, d, is, e0, was, hU, lU, nU, b1, b2, b3, b4, hde⟩ := round_fact A c hA nA FA.out
        have HU := hid hU
        have B1 := hid b1
        have B2 := hid b2
        have B3 := hid b3
        have B4 := hid b4
        have NU := hid nU
        clear hU b1 b2 b3 b4 nU nA
        cases is
        · clear hde
          go_wp2_with fail
          refine (finite_yes A _ hA FA.out).mono ?_
          rintro e w' ⟨rfl, rfl⟩
          go_wp2_with fail
          refine (up_at A U _ hA HU.out).mono ?_
          rintro e w' ⟨rfl, rfl⟩
          go_wp2_with fail
          refine (between_at c U d _ _ hc lU B1.out B2.out).mono ?_
          rintro e w' ⟨rfl, rfl⟩
          go_wp2_with fail
          refine (between_at c A e0 _ _ hc hA B3.out B4.out).mono ?_
          rintro e w' ⟨rfl, rfl⟩
          go_wp2
          go_round
          case rel => exact ⟨U, j + 1, lU, NU.out, rfl, by go_num, by go_num, by omega⟩
          case measure => simp [intOf]; omega
        · cases was
          · clear hde
            go_wp2_with fail
            refine (finite_yes A _ hA FA.out).mono ?_
            rintro e w' ⟨rfl, rfl⟩
            go_wp2_with fail
            refine (up_at A U _ hA HU.out).mono ?_
            rintro e w' ⟨rfl, rfl⟩
            go_wp2_with fail
            refine (between_at c U d _ _ hc lU B1.out B2.out).mono ?_
            rintro e w' ⟨rfl, rfl⟩
            go_wp2_with fail
            refine (between_at c A e0 _ _ hc hA B3.out B4.out).mono ?_
            rintro e w' ⟨rfl, rfl⟩
            go_wp2
            go_round
            case rel => exact ⟨U, j + 1, lU, NU.out, rfl, by go_num, by go_num, by omega⟩
            case measure => simp [intOf]; omega
          · have hd2 := hde rfl rfl
            clear hde
            go_wp2_with fail
            refine (finite_yes A _ hA FA.out).mono ?_
            rintro e w' ⟨rfl, rfl⟩
            go_wp2_with fail
            refine (up_at A U _ hA HU.out).mono ?_
            rintro e w' ⟨rfl, rfl⟩
            go_wp2_with fail
            refine (between_at c U d _ _ hc lU B1.out B2.out).mono ?_
            rintro e w' ⟨rfl, rfl⟩
            go_wp2_with fail
            refine (between_at c A e0 _ _ hc hA B3.out B4.out).mono ?_
            rintro e w' ⟨rfl, rfl⟩
            go_wp2
            go_round
            case rel => exact ⟨U, j + 1, lU, NU.out, rfl, by go_num, by go_num, by omega⟩
            case measure => simp [intOf]; omega
    · go_wp2
      go_ret
      exact ⟨by simp; omega, Grown.refl _⟩
set_option maxHeartbeats 2000000 in
set_option maxRecDepth 100000 in
theorem sy10 (a b c : Nat) (n x y z s v : Int) (ok also too fit back : Bool) (w : World) (ha : a < 18446744073709551616) (hb : b < 18446744073709551616) (hc : c < 18446744073709551616)
    (h1 : Hid (betB a b = x)) (h2 : Hid (betOk a b = ok)) (h3 : Hid (betB b c = y)) (h4 : Hid (betOk b c = also)) (h5 : Hid (betB a c = z)) (h6 : Hid (betOk a c = too)) (h7 : Hid (wrap64 (x + y) = s)) (h8 : Hid (fitB x y = fit)) (h9 : Hid (betB b a = v)) (h10 : Hid (betOk b a = back)) (hf : Hid (fin a = false))
    (e1 : ok = true) (f1 : feq a a = true) (f2 : feq b b = true) (a1 : also = true) (a2 : too = false) (c1 : back = true) (c2 : wrap64 (-x) = v) (c3 : decide (0 < x) = true) :
    Calls Try.prog 7 #[.float .f64 a, .float .f64 b, .float .f64 c, .int .u8 n] w fun e w' => e = .returned (.bool true) ∧ Grown w w' := by
  subst e1
  subst a1 a2
  subst c1
  go_enter Try.func7, Try.ntmps7
  go_wp2_with fail
  refine (lives_any _).mono ?_
  rintro e w' ⟨rfl, rfl⟩
  go_wp2_with fail
  refine (between_at a b x _ _ ha hb h1.out h2.out).mono ?_
  rintro e w' ⟨rfl, rfl⟩
  go_wp2_with fail
  refine (between_at b c y _ _ hb hc h3.out h4.out).mono ?_
  rintro e w' ⟨rfl, rfl⟩
  go_wp2_with fail
  refine (between_at a c z _ _ ha hc h5.out h6.out).mono ?_
  rintro e w' ⟨rfl, rfl⟩
  go_wp2_with fail
  refine (fits_any x y s _ _ h7.out h8).mono ?_
  rintro e w' ⟨rfl, rfl⟩
  go_wp2_with fail
  refine (between_at b a v _ _ hb ha h9.out h10.out).mono ?_
  rintro e w' ⟨rfl, rfl⟩
  go_wp2_with fail
  refine (finite_no a _ ha hf.out).mono ?_
  rintro e w' ⟨rfl, rfl⟩
  go_wp2
  go_ret
  exact ⟨rfl, (Grown.refl _).drew⟩
set_option maxHeartbeats 2000000 in
set_option maxRecDepth 100000 in
theorem ly11 (a b c : Nat) (n x y z s v : Int) (ok also too fit back : Bool) (w : World) (ha : a < 18446744073709551616) (hb : b < 18446744073709551616) (hc : c < 18446744073709551616) (hn0 : 0 ≤ n) (hn : n ≤ 255)
    (h1 : Hid (betB a b = x)) (h2 : Hid (betOk a b = ok)) (h3 : Hid (betB b c = y)) (h4 : Hid (betOk b c = also)) (h5 : Hid (betB a c = z)) (h6 : Hid (betOk a c = too)) (h7 : Hid (wrap64 (x + y) = s)) (h8 : Hid (fitB x y = fit)) (h9 : Hid (betB b a = v)) (h10 : Hid (betOk b a = back)) (NA : Hid (isN a = false)) (hf : Hid (fin a = true))
    (e1 : ok = true) (f1 : feq a a = true) (f2 : feq b b = true) (a1 : also = true) (a2 : too = false) (c1 : back = true) (c2 : wrap64 (-x) = v) (c3 : decide (0 < x) = false) :
    Calls Try.prog 7 #[.float .f64 a, .float .f64 b, .float .f64 c, .int .u8 n] w fun e w' => e = .returned (.bool true) ∧ Grown w w' := by
  subst e1
  subst a1 a2
  subst c1
  go_enter Try.func7, Try.ntmps7
  go_wp2_with fail
  refine (lives_any _).mono ?_
  rintro e w' ⟨rfl, rfl⟩
  go_wp2_with fail
  refine (between_at a b x _ _ ha hb h1.out h2.out).mono ?_
  rintro e w' ⟨rfl, rfl⟩
  go_wp2_with fail
  refine (between_at b c y _ _ hb hc h3.out h4.out).mono ?_
  rintro e w' ⟨rfl, rfl⟩
  go_wp2_with fail
  refine (between_at a c z _ _ ha hc h5.out h6.out).mono ?_
  rintro e w' ⟨rfl, rfl⟩
  go_wp2_with fail
  refine (fits_any x y s _ _ h7.out h8).mono ?_
  rintro e w' ⟨rfl, rfl⟩
  go_wp2_with fail
  refine (between_at b a v _ _ hb ha h9.out h10.out).mono ?_
  rintro e w' ⟨rfl, rfl⟩
  go_wp2_with fail
  refine (finite_yes a _ ha hf.out).mono ?_
  rintro e w' ⟨rfl, rfl⟩
  go_wp2
  go_loop [0, 19, 20] (fun av kv iv => ∃ A j : Nat, A < 18446744073709551616 ∧ isN A = false ∧ av = .float .f64 A ∧ kv = .int .i64 j ∧ iv = .int .u8 j ∧ j ≤ 63) (fun _ _ iv => 64 - (intOf iv).toNat)
  case atStart => exact ⟨a, 0, ha, NA.out, rfl, rfl, rfl, by omega⟩
  case round =>
    obtain ⟨A, j, hA, nA, rfl, rfl, rfl, hj⟩ := hrel
    clear h1 h2 h3 h4 h5 h6 h7 h8 h9 h10 hf
    by_cases hlt : (j : Int) < n % 64
    · cases fA : fin A
      · have FA := hid fA
        clear fA
        go_wp2_with fail
        refine (finite_no A _ hA FA.out).mono ?_
        rintro e w' ⟨rfl, rfl⟩
        go_wp2
        go_ret
        exact ⟨by simp; omega, (Grown.refl _).drew⟩
      · have FA := hid fA
        clear fA
        have fAA : feq A A = true := by rw [feq_self A hA, nA]; rfl
        obtain ⟨U, d, is, e0, was, hU, lU, nU, b1, b2, b3, b4, hde⟩ := round_fact A c hA nA FA.out
        have HU := hid hU
        have B1 := hid b1
        have B2 := hid b2
        have B3 := hid b3
        have B4 := hid b4
        have NU := hid nU
        clear hU b1 b2 b3 b4 nU nA
        cases is
        · clear hde
          go_wp2_with fail
          refine (finite_yes A _ hA FA.out).mono ?_
          rintro e w' ⟨rfl, rfl⟩
          go_wp2_with fail
          refine (up_at A U _ hA HU.out).mono ?_
          rintro e w' ⟨rfl, rfl⟩
          go_wp2_with fail
          refine (between_at c U d _ _ hc lU B1.out B2.out).mono ?_
          rintro e w' ⟨rfl, rfl⟩
          go_wp2_with fail
          refine (between_at c A e0 _ _ hc hA B3.out B4.out).mono ?_
          rintro e w' ⟨rfl, rfl⟩
          go_wp2
          go_round
          case rel => exact ⟨U, j + 1, lU, NU.out, rfl, by go_num, by go_num, by omega⟩
          case measure => simp [intOf]; omega
        · cases was
          · clear hde
            go_wp2_with fail
            refine (finite_yes A _ hA FA.out).mono ?_
            rintro e w' ⟨rfl, rfl⟩
            go_wp2_with fail
            refine (up_at A U _ hA HU.out).mono ?_
            rintro e w' ⟨rfl, rfl⟩
            go_wp2_with fail
            refine (between_at c U d _ _ hc lU B1.out B2.out).mono ?_
            rintro e w' ⟨rfl, rfl⟩
            go_wp2_with fail
            refine (between_at c A e0 _ _ hc hA B3.out B4.out).mono ?_
            rintro e w' ⟨rfl, rfl⟩
            go_wp2
            go_round
            case rel => exact ⟨U, j + 1, lU, NU.out, rfl, by go_num, by go_num, by omega⟩
            case measure => simp [intOf]; omega
          · have hd2 := hde rfl rfl
            clear hde
            go_wp2_with fail
            refine (finite_yes A _ hA FA.out).mono ?_
            rintro e w' ⟨rfl, rfl⟩
            go_wp2_with fail
            refine (up_at A U _ hA HU.out).mono ?_
            rintro e w' ⟨rfl, rfl⟩
            go_wp2_with fail
            refine (between_at c U d _ _ hc lU B1.out B2.out).mono ?_
            rintro e w' ⟨rfl, rfl⟩
            go_wp2_with fail
            refine (between_at c A e0 _ _ hc hA B3.out B4.out).mono ?_
            rintro e w' ⟨rfl, rfl⟩
            go_wp2
            go_round
            case rel => exact ⟨U, j + 1, lU, NU.out, rfl, by go_num, by go_num, by omega⟩
            case measure => simp [intOf]; omega
    · go_wp2
      go_ret
      exact ⟨by simp; omega, Grown.refl _⟩
set_option maxHeartbeats 2000000 in
set_option maxRecDepth 100000 in
theorem sy11 (a b c : Nat) (n x y z s v : Int) (ok also too fit back : Bool) (w : World) (ha : a < 18446744073709551616) (hb : b < 18446744073709551616) (hc : c < 18446744073709551616)
    (h1 : Hid (betB a b = x)) (h2 : Hid (betOk a b = ok)) (h3 : Hid (betB b c = y)) (h4 : Hid (betOk b c = also)) (h5 : Hid (betB a c = z)) (h6 : Hid (betOk a c = too)) (h7 : Hid (wrap64 (x + y) = s)) (h8 : Hid (fitB x y = fit)) (h9 : Hid (betB b a = v)) (h10 : Hid (betOk b a = back)) (hf : Hid (fin a = false))
    (e1 : ok = true) (f1 : feq a a = true) (f2 : feq b b = true) (a1 : also = true) (a2 : too = false) (c1 : back = true) (c2 : wrap64 (-x) = v) (c3 : decide (0 < x) = false) :
    Calls Try.prog 7 #[.float .f64 a, .float .f64 b, .float .f64 c, .int .u8 n] w fun e w' => e = .returned (.bool true) ∧ Grown w w' := by
  subst e1
  subst a1 a2
  subst c1
  go_enter Try.func7, Try.ntmps7
  go_wp2_with fail
  refine (lives_any _).mono ?_
  rintro e w' ⟨rfl, rfl⟩
  go_wp2_with fail
  refine (between_at a b x _ _ ha hb h1.out h2.out).mono ?_
  rintro e w' ⟨rfl, rfl⟩
  go_wp2_with fail
  refine (between_at b c y _ _ hb hc h3.out h4.out).mono ?_
  rintro e w' ⟨rfl, rfl⟩
  go_wp2_with fail
  refine (between_at a c z _ _ ha hc h5.out h6.out).mono ?_
  rintro e w' ⟨rfl, rfl⟩
  go_wp2_with fail
  refine (fits_any x y s _ _ h7.out h8).mono ?_
  rintro e w' ⟨rfl, rfl⟩
  go_wp2_with fail
  refine (between_at b a v _ _ hb ha h9.out h10.out).mono ?_
  rintro e w' ⟨rfl, rfl⟩
  go_wp2_with fail
  refine (finite_no a _ ha hf.out).mono ?_
  rintro e w' ⟨rfl, rfl⟩
  go_wp2
  go_ret
  exact ⟨rfl, (Grown.refl _).drew⟩
set_option maxHeartbeats 2000000 in
set_option maxRecDepth 100000 in
theorem ly12 (a b c : Nat) (n x y z s v : Int) (ok also too fit back : Bool) (w : World) (ha : a < 18446744073709551616) (hb : b < 18446744073709551616) (hc : c < 18446744073709551616) (hn0 : 0 ≤ n) (hn : n ≤ 255)
    (h1 : Hid (betB a b = x)) (h2 : Hid (betOk a b = ok)) (h3 : Hid (betB b c = y)) (h4 : Hid (betOk b c = also)) (h5 : Hid (betB a c = z)) (h6 : Hid (betOk a c = too)) (h7 : Hid (wrap64 (x + y) = s)) (h8 : Hid (fitB x y = fit)) (h9 : Hid (betB b a = v)) (h10 : Hid (betOk b a = back)) (NA : Hid (isN a = false)) (hf : Hid (fin a = true))
    (e1 : ok = true) (f1 : feq a a = true) (f2 : feq b b = true) (a1 : also = true) (a2 : too = false) (c1 : back = false) (c3 : decide (0 < x) = false) :
    Calls Try.prog 7 #[.float .f64 a, .float .f64 b, .float .f64 c, .int .u8 n] w fun e w' => e = .returned (.bool true) ∧ Grown w w' := by
  subst e1
  subst a1 a2
  subst c1
  go_enter Try.func7, Try.ntmps7
  go_wp2_with fail
  refine (lives_any _).mono ?_
  rintro e w' ⟨rfl, rfl⟩
  go_wp2_with fail
  refine (between_at a b x _ _ ha hb h1.out h2.out).mono ?_
  rintro e w' ⟨rfl, rfl⟩
  go_wp2_with fail
  refine (between_at b c y _ _ hb hc h3.out h4.out).mono ?_
  rintro e w' ⟨rfl, rfl⟩
  go_wp2_with fail
  refine (between_at a c z _ _ ha hc h5.out h6.out).mono ?_
  rintro e w' ⟨rfl, rfl⟩
  go_wp2_with fail
  refine (fits_any x y s _ _ h7.out h8).mono ?_
  rintro e w' ⟨rfl, rfl⟩
  go_wp2_with fail
  refine (between_at b a v _ _ hb ha h9.out h10.out).mono ?_
  rintro e w' ⟨rfl, rfl⟩
  go_wp2_with fail
  refine (finite_yes a _ ha hf.out).mono ?_
  rintro e w' ⟨rfl, rfl⟩
  go_wp2
  go_loop [0, 19, 20] (fun av kv iv => ∃ A j : Nat, A < 18446744073709551616 ∧ isN A = false ∧ av = .float .f64 A ∧ kv = .int .i64 j ∧ iv = .int .u8 j ∧ j ≤ 63) (fun _ _ iv => 64 - (intOf iv).toNat)
  case atStart => exact ⟨a, 0, ha, NA.out, rfl, rfl, rfl, by omega⟩
  case round =>
    obtain ⟨A, j, hA, nA, rfl, rfl, rfl, hj⟩ := hrel
    clear h1 h2 h3 h4 h5 h6 h7 h8 h9 h10 hf
    by_cases hlt : (j : Int) < n % 64
    · cases fA : fin A
      · have FA := hid fA
        clear fA
        go_wp2_with fail
        refine (finite_no A _ hA FA.out).mono ?_
        rintro e w' ⟨rfl, rfl⟩
        go_wp2
        go_ret
        exact ⟨by simp; omega, (Grown.refl _).drew⟩
      · have FA := hid fA
        clear fA
        have fAA : feq A A = true := by rw [feq_self A hA, nA]; rfl
        obtain ⟨U, d, is, e0, was, hU, lU, nU, b1, b2, b3, b4, hde⟩ := round_fact A c hA nA FA.out
        have HU := hid hU
        have B1 := hid b1
        have B2 := hid b2
        have B3 := hid b3
        have B4 := hid b4
        have NU := hid nU
        clear hU b1 b2 b3 b4 nU nA
        cases is
        · clear hde
          go_wp2_with fail
          refine (finite_yes A _ hA FA.out).mono ?_
          rintro e w' ⟨rfl, rfl⟩
          go_wp2_with fail
          refine (up_at A U _ hA HU.out).mono ?_
          rintro e w' ⟨rfl, rfl⟩
          go_wp2_with fail
          refine (between_at c U d _ _ hc lU B1.out B2.out).mono ?_
          rintro e w' ⟨rfl, rfl⟩
          go_wp2_with fail
          refine (between_at c A e0 _ _ hc hA B3.out B4.out).mono ?_
          rintro e w' ⟨rfl, rfl⟩
          go_wp2
          go_round
          case rel => exact ⟨U, j + 1, lU, NU.out, rfl, by go_num, by go_num, by omega⟩
          case measure => simp [intOf]; omega
        · cases was
          · clear hde
            go_wp2_with fail
            refine (finite_yes A _ hA FA.out).mono ?_
            rintro e w' ⟨rfl, rfl⟩
            go_wp2_with fail
            refine (up_at A U _ hA HU.out).mono ?_
            rintro e w' ⟨rfl, rfl⟩
            go_wp2_with fail
            refine (between_at c U d _ _ hc lU B1.out B2.out).mono ?_
            rintro e w' ⟨rfl, rfl⟩
            go_wp2_with fail
            refine (between_at c A e0 _ _ hc hA B3.out B4.out).mono ?_
            rintro e w' ⟨rfl, rfl⟩
            go_wp2
            go_round
            case rel => exact ⟨U, j + 1, lU, NU.out, rfl, by go_num, by go_num, by omega⟩
            case measure => simp [intOf]; omega
          · have hd2 := hde rfl rfl
            clear hde
            go_wp2_with fail
            refine (finite_yes A _ hA FA.out).mono ?_
            rintro e w' ⟨rfl, rfl⟩
            go_wp2_with fail
            refine (up_at A U _ hA HU.out).mono ?_
            rintro e w' ⟨rfl, rfl⟩
            go_wp2_with fail
            refine (between_at c U d _ _ hc lU B1.out B2.out).mono ?_
            rintro e w' ⟨rfl, rfl⟩
            go_wp2_with fail
            refine (between_at c A e0 _ _ hc hA B3.out B4.out).mono ?_
            rintro e w' ⟨rfl, rfl⟩
            go_wp2
            go_round
            case rel => exact ⟨U, j + 1, lU, NU.out, rfl, by go_num, by go_num, by omega⟩
            case measure => simp [intOf]; omega
    · go_wp2
      go_ret
      exact ⟨by simp; omega, Grown.refl _⟩
set_option maxHeartbeats 2000000 in
set_option maxRecDepth 100000 in
theorem sy12 (a b c : Nat) (n x y z s v : Int) (ok also too fit back : Bool) (w : World) (ha : a < 18446744073709551616) (hb : b < 18446744073709551616) (hc : c < 18446744073709551616)
    (h1 : Hid (betB a b = x)) (h2 : Hid (betOk a b = ok)) (h3 : Hid (betB b c = y)) (h4 : Hid (betOk b c = also)) (h5 : Hid (betB a c = z)) (h6 : Hid (betOk a c = too)) (h7 : Hid (wrap64 (x + y) = s)) (h8 : Hid (fitB x y = fit)) (h9 : Hid (betB b a = v)) (h10 : Hid (betOk b a = back)) (hf : Hid (fin a = false))
    (e1 : ok = true) (f1 : feq a a = true) (f2 : feq b b = true) (a1 : also = true) (a2 : too = false) (c1 : back = false) (c3 : decide (0 < x) = false) :
    Calls Try.prog 7 #[.float .f64 a, .float .f64 b, .float .f64 c, .int .u8 n] w fun e w' => e = .returned (.bool true) ∧ Grown w w' := by
  subst e1
  subst a1 a2
  subst c1
  go_enter Try.func7, Try.ntmps7
  go_wp2_with fail
  refine (lives_any _).mono ?_
  rintro e w' ⟨rfl, rfl⟩
  go_wp2_with fail
  refine (between_at a b x _ _ ha hb h1.out h2.out).mono ?_
  rintro e w' ⟨rfl, rfl⟩
  go_wp2_with fail
  refine (between_at b c y _ _ hb hc h3.out h4.out).mono ?_
  rintro e w' ⟨rfl, rfl⟩
  go_wp2_with fail
  refine (between_at a c z _ _ ha hc h5.out h6.out).mono ?_
  rintro e w' ⟨rfl, rfl⟩
  go_wp2_with fail
  refine (fits_any x y s _ _ h7.out h8).mono ?_
  rintro e w' ⟨rfl, rfl⟩
  go_wp2_with fail
  refine (between_at b a v _ _ hb ha h9.out h10.out).mono ?_
  rintro e w' ⟨rfl, rfl⟩
  go_wp2_with fail
  refine (finite_no a _ ha hf.out).mono ?_
  rintro e w' ⟨rfl, rfl⟩
  go_wp2
  go_ret
  exact ⟨rfl, (Grown.refl _).drew⟩
set_option maxHeartbeats 2000000 in
set_option maxRecDepth 100000 in
theorem ly20 (a b c : Nat) (n x y z s v : Int) (ok also too fit back : Bool) (w : World) (ha : a < 18446744073709551616) (hb : b < 18446744073709551616) (hc : c < 18446744073709551616) (hn0 : 0 ≤ n) (hn : n ≤ 255)
    (h1 : Hid (betB a b = x)) (h2 : Hid (betOk a b = ok)) (h3 : Hid (betB b c = y)) (h4 : Hid (betOk b c = also)) (h5 : Hid (betB a c = z)) (h6 : Hid (betOk a c = too)) (h7 : Hid (wrap64 (x + y) = s)) (h8 : Hid (fitB x y = fit)) (h9 : Hid (betB b a = v)) (h10 : Hid (betOk b a = back)) (NA : Hid (isN a = false)) (hf : Hid (fin a = true))
    (e1 : ok = true) (f1 : feq a a = true) (f2 : feq b b = true) (a1 : also = true) (a2 : too = true) (a3 : fit = false) (c1 : back = true) (c2 : wrap64 (-x) = v) (c3 : decide (0 < x) = true) :
    Calls Try.prog 7 #[.float .f64 a, .float .f64 b, .float .f64 c, .int .u8 n] w fun e w' => e = .returned (.bool true) ∧ Grown w w' := by
  subst e1
  subst a1 a2 a3
  subst c1
  go_enter Try.func7, Try.ntmps7
  go_wp2_with fail
  refine (lives_any _).mono ?_
  rintro e w' ⟨rfl, rfl⟩
  go_wp2_with fail
  refine (between_at a b x _ _ ha hb h1.out h2.out).mono ?_
  rintro e w' ⟨rfl, rfl⟩
  go_wp2_with fail
  refine (between_at b c y _ _ hb hc h3.out h4.out).mono ?_
  rintro e w' ⟨rfl, rfl⟩
  go_wp2_with fail
  refine (between_at a c z _ _ ha hc h5.out h6.out).mono ?_
  rintro e w' ⟨rfl, rfl⟩
  go_wp2_with fail
  refine (fits_any x y s _ _ h7.out h8).mono ?_
  rintro e w' ⟨rfl, rfl⟩
  go_wp2_with fail
  refine (between_at b a v _ _ hb ha h9.out h10.out).mono ?_
  rintro e w' ⟨rfl, rfl⟩
  go_wp2_with fail
  refine (finite_yes a _ ha hf.out).mono ?_
  rintro e w' ⟨rfl, rfl⟩
  go_wp2
  go_loop [0, 19, 20] (fun av kv iv => ∃ A j : Nat, A < 18446744073709551616 ∧ isN A = false ∧ av = .float .f64 A ∧ kv = .int .i64 j ∧ iv = .int .u8 j ∧ j ≤ 63) (fun _ _ iv => 64 - (intOf iv).toNat)
  case atStart => exact ⟨a, 0, ha, NA.out, rfl, rfl, rfl, by omega⟩
  case round =>
    obtain ⟨A, j, hA, nA, rfl, rfl, rfl, hj⟩ := hrel
    clear h1 h2 h3 h4 h5 h6 h7 h8 h9 h10 hf
    by_cases hlt : (j : Int) < n % 64
    · cases fA : fin A
      · have FA := hid fA
        clear fA
        go_wp2_with fail
        refine (finite_no A _ hA FA.out).mono ?_
        rintro e w' ⟨rfl, rfl⟩
        go_wp2
        go_ret
        exact ⟨by simp; omega, (Grown.refl _).drew⟩
      · have FA := hid fA
        clear fA
        have fAA : feq A A = true := by rw [feq_self A hA, nA]; rfl
        obtain ⟨U, d, is, e0, was, hU, lU, nU, b1, b2, b3, b4, hde⟩ := round_fact A c hA nA FA.out
        have HU := hid hU
        have B1 := hid b1
        have B2 := hid b2
        have B3 := hid b3
        have B4 := hid b4
        have NU := hid nU
        clear hU b1 b2 b3 b4 nU nA
        cases is
        · clear hde
          go_wp2_with fail
          refine (finite_yes A _ hA FA.out).mono ?_
          rintro e w' ⟨rfl, rfl⟩
          go_wp2_with fail
          refine (up_at A U _ hA HU.out).mono ?_
          rintro e w' ⟨rfl, rfl⟩
          go_wp2_with fail
          refine (between_at c U d _ _ hc lU B1.out B2.out).mono ?_
          rintro e w' ⟨rfl, rfl⟩
          go_wp2_with fail
          refine (between_at c A e0 _ _ hc hA B3.out B4.out).mono ?_
          rintro e w' ⟨rfl, rfl⟩
          go_wp2
          go_round
          case rel => exact ⟨U, j + 1, lU, NU.out, rfl, by go_num, by go_num, by omega⟩
          case measure => simp [intOf]; omega
        · cases was
          · clear hde
            go_wp2_with fail
            refine (finite_yes A _ hA FA.out).mono ?_
            rintro e w' ⟨rfl, rfl⟩
            go_wp2_with fail
            refine (up_at A U _ hA HU.out).mono ?_
            rintro e w' ⟨rfl, rfl⟩
            go_wp2_with fail
            refine (between_at c U d _ _ hc lU B1.out B2.out).mono ?_
            rintro e w' ⟨rfl, rfl⟩
            go_wp2_with fail
            refine (between_at c A e0 _ _ hc hA B3.out B4.out).mono ?_
            rintro e w' ⟨rfl, rfl⟩
            go_wp2
            go_round
            case rel => exact ⟨U, j + 1, lU, NU.out, rfl, by go_num, by go_num, by omega⟩
            case measure => simp [intOf]; omega
          · have hd2 := hde rfl rfl
            clear hde
            go_wp2_with fail
            refine (finite_yes A _ hA FA.out).mono ?_
            rintro e w' ⟨rfl, rfl⟩
            go_wp2_with fail
            refine (up_at A U _ hA HU.out).mono ?_
            rintro e w' ⟨rfl, rfl⟩
            go_wp2_with fail
            refine (between_at c U d _ _ hc lU B1.out B2.out).mono ?_
            rintro e w' ⟨rfl, rfl⟩
            go_wp2_with fail
            refine (between_at c A e0 _ _ hc hA B3.out B4.out).mono ?_
            rintro e w' ⟨rfl, rfl⟩
            go_wp2
            go_round
            case rel => exact ⟨U, j + 1, lU, NU.out, rfl, by go_num, by go_num, by omega⟩
            case measure => simp [intOf]; omega
    · go_wp2
      go_ret
      exact ⟨by simp; omega, Grown.refl _⟩
set_option maxHeartbeats 2000000 in
set_option maxRecDepth 100000 in
theorem sy20 (a b c : Nat) (n x y z s v : Int) (ok also too fit back : Bool) (w : World) (ha : a < 18446744073709551616) (hb : b < 18446744073709551616) (hc : c < 18446744073709551616)
    (h1 : Hid (betB a b = x)) (h2 : Hid (betOk a b = ok)) (h3 : Hid (betB b c = y)) (h4 : Hid (betOk b c = also)) (h5 : Hid (betB a c = z)) (h6 : Hid (betOk a c = too)) (h7 : Hid (wrap64 (x + y) = s)) (h8 : Hid (fitB x y = fit)) (h9 : Hid (betB b a = v)) (h10 : Hid (betOk b a = back)) (hf : Hid (fin a = false))
    (e1 : ok = true) (f1 : feq a a = true) (f2 : feq b b = true) (a1 : also = true) (a2 : too = true) (a3 : fit = false) (c1 : back = true) (c2 : wrap64 (-x) = v) (c3 : decide (0 < x) = true) :
    Calls Try.prog 7 #[.float .f64 a, .float .f64 b, .float .f64 c, .int .u8 n] w fun e w' => e = .returned (.bool true) ∧ Grown w w' := by
  subst e1
  subst a1 a2 a3
  subst c1
  go_enter Try.func7, Try.ntmps7
  go_wp2_with fail
  refine (lives_any _).mono ?_
  rintro e w' ⟨rfl, rfl⟩
  go_wp2_with fail
  refine (between_at a b x _ _ ha hb h1.out h2.out).mono ?_
  rintro e w' ⟨rfl, rfl⟩
  go_wp2_with fail
  refine (between_at b c y _ _ hb hc h3.out h4.out).mono ?_
  rintro e w' ⟨rfl, rfl⟩
  go_wp2_with fail
  refine (between_at a c z _ _ ha hc h5.out h6.out).mono ?_
  rintro e w' ⟨rfl, rfl⟩
  go_wp2_with fail
  refine (fits_any x y s _ _ h7.out h8).mono ?_
  rintro e w' ⟨rfl, rfl⟩
  go_wp2_with fail
  refine (between_at b a v _ _ hb ha h9.out h10.out).mono ?_
  rintro e w' ⟨rfl, rfl⟩
  go_wp2_with fail
  refine (finite_no a _ ha hf.out).mono ?_
  rintro e w' ⟨rfl, rfl⟩
  go_wp2
  go_ret
  exact ⟨rfl, (Grown.refl _).drew⟩
set_option maxHeartbeats 2000000 in
set_option maxRecDepth 100000 in
theorem ly21 (a b c : Nat) (n x y z s v : Int) (ok also too fit back : Bool) (w : World) (ha : a < 18446744073709551616) (hb : b < 18446744073709551616) (hc : c < 18446744073709551616) (hn0 : 0 ≤ n) (hn : n ≤ 255)
    (h1 : Hid (betB a b = x)) (h2 : Hid (betOk a b = ok)) (h3 : Hid (betB b c = y)) (h4 : Hid (betOk b c = also)) (h5 : Hid (betB a c = z)) (h6 : Hid (betOk a c = too)) (h7 : Hid (wrap64 (x + y) = s)) (h8 : Hid (fitB x y = fit)) (h9 : Hid (betB b a = v)) (h10 : Hid (betOk b a = back)) (NA : Hid (isN a = false)) (hf : Hid (fin a = true))
    (e1 : ok = true) (f1 : feq a a = true) (f2 : feq b b = true) (a1 : also = true) (a2 : too = true) (a3 : fit = false) (c1 : back = true) (c2 : wrap64 (-x) = v) (c3 : decide (0 < x) = false) :
    Calls Try.prog 7 #[.float .f64 a, .float .f64 b, .float .f64 c, .int .u8 n] w fun e w' => e = .returned (.bool true) ∧ Grown w w' := by
  subst e1
  subst a1 a2 a3
  subst c1
  go_enter Try.func7, Try.ntmps7
  go_wp2_with fail
  refine (lives_any _).mono ?_
  rintro e w' ⟨rfl, rfl⟩
  go_wp2_with fail
  refine (between_at a b x _ _ ha hb h1.out h2.out).mono ?_
  rintro e w' ⟨rfl, rfl⟩
  go_wp2_with fail
  refine (between_at b c y _ _ hb hc h3.out h4.out).mono ?_
  rintro e w' ⟨rfl, rfl⟩
  go_wp2_with fail
  refine (between_at a c z _ _ ha hc h5.out h6.out).mono ?_
  rintro e w' ⟨rfl, rfl⟩
  go_wp2_with fail
  refine (fits_any x y s _ _ h7.out h8).mono ?_
  rintro e w' ⟨rfl, rfl⟩
  go_wp2_with fail
  refine (between_at b a v _ _ hb ha h9.out h10.out).mono ?_
  rintro e w' ⟨rfl, rfl⟩
  go_wp2_with fail
  refine (finite_yes a _ ha hf.out).mono ?_
  rintro e w' ⟨rfl, rfl⟩
  go_wp2
  go_loop [0, 19, 20] (fun av kv iv => ∃ A j : Nat, A < 18446744073709551616 ∧ isN A = false ∧ av = .float .f64 A ∧ kv = .int .i64 j ∧ iv = .int .u8 j ∧ j ≤ 63) (fun _ _ iv => 64 - (intOf iv).toNat)
  case atStart => exact ⟨a, 0, ha, NA.out, rfl, rfl, rfl, by omega⟩
  case round =>
    obtain ⟨A, j, hA, nA, rfl, rfl, rfl, hj⟩ := hrel
    clear h1 h2 h3 h4 h5 h6 h7 h8 h9 h10 hf
    by_cases hlt : (j : Int) < n % 64
    · cases fA : fin A
      · have FA := hid fA
        clear fA
        go_wp2_with fail
        refine (finite_no A _ hA FA.out).mono ?_
        rintro e w' ⟨rfl, rfl⟩
        go_wp2
        go_ret
        exact ⟨by simp; omega, (Grown.refl _).drew⟩
      · have FA := hid fA
        clear fA
        have fAA : feq A A = true := by rw [feq_self A hA, nA]; rfl
        obtain ⟨U, d, is, e0, was, hU, lU, nU, b1, b2, b3, b4, hde⟩ := round_fact A c hA nA FA.out
        have HU := hid hU
        have B1 := hid b1
        have B2 := hid b2
        have B3 := hid b3
        have B4 := hid b4
        have NU := hid nU
        clear hU b1 b2 b3 b4 nU nA
        cases is
        · clear hde
          go_wp2_with fail
          refine (finite_yes A _ hA FA.out).mono ?_
          rintro e w' ⟨rfl, rfl⟩
          go_wp2_with fail
          refine (up_at A U _ hA HU.out).mono ?_
          rintro e w' ⟨rfl, rfl⟩
          go_wp2_with fail
          refine (between_at c U d _ _ hc lU B1.out B2.out).mono ?_
          rintro e w' ⟨rfl, rfl⟩
          go_wp2_with fail
          refine (between_at c A e0 _ _ hc hA B3.out B4.out).mono ?_
          rintro e w' ⟨rfl, rfl⟩
          go_wp2
          go_round
          case rel => exact ⟨U, j + 1, lU, NU.out, rfl, by go_num, by go_num, by omega⟩
          case measure => simp [intOf]; omega
        · cases was
          · clear hde
            go_wp2_with fail
            refine (finite_yes A _ hA FA.out).mono ?_
            rintro e w' ⟨rfl, rfl⟩
            go_wp2_with fail
            refine (up_at A U _ hA HU.out).mono ?_
            rintro e w' ⟨rfl, rfl⟩
            go_wp2_with fail
            refine (between_at c U d _ _ hc lU B1.out B2.out).mono ?_
            rintro e w' ⟨rfl, rfl⟩
            go_wp2_with fail
            refine (between_at c A e0 _ _ hc hA B3.out B4.out).mono ?_
            rintro e w' ⟨rfl, rfl⟩
            go_wp2
            go_round
            case rel => exact ⟨U, j + 1, lU, NU.out, rfl, by go_num, by go_num, by omega⟩
            case measure => simp [intOf]; omega
          · have hd2 := hde rfl rfl
            clear hde
            go_wp2_with fail
            refine (finite_yes A _ hA FA.out).mono ?_
            rintro e w' ⟨rfl, rfl⟩
            go_wp2_with fail
            refine (up_at A U _ hA HU.out).mono ?_
            rintro e w' ⟨rfl, rfl⟩
            go_wp2_with fail
            refine (between_at c U d _ _ hc lU B1.out B2.out).mono ?_
            rintro e w' ⟨rfl, rfl⟩
            go_wp2_with fail
            refine (between_at c A e0 _ _ hc hA B3.out B4.out).mono ?_
            rintro e w' ⟨rfl, rfl⟩
            go_wp2
            go_round
            case rel => exact ⟨U, j + 1, lU, NU.out, rfl, by go_num, by go_num, by omega⟩
            case measure => simp [intOf]; omega
    · go_wp2
      go_ret
      exact ⟨by simp; omega, Grown.refl _⟩
set_option maxHeartbeats 2000000 in
set_option maxRecDepth 100000 in
theorem sy21 (a b c : Nat) (n x y z s v : Int) (ok also too fit back : Bool) (w : World) (ha : a < 18446744073709551616) (hb : b < 18446744073709551616) (hc : c < 18446744073709551616)
    (h1 : Hid (betB a b = x)) (h2 : Hid (betOk a b = ok)) (h3 : Hid (betB b c = y)) (h4 : Hid (betOk b c = also)) (h5 : Hid (betB a c = z)) (h6 : Hid (betOk a c = too)) (h7 : Hid (wrap64 (x + y) = s)) (h8 : Hid (fitB x y = fit)) (h9 : Hid (betB b a = v)) (h10 : Hid (betOk b a = back)) (hf : Hid (fin a = false))
    (e1 : ok = true) (f1 : feq a a = true) (f2 : feq b b = true) (a1 : also = true) (a2 : too = true) (a3 : fit = false) (c1 : back = true) (c2 : wrap64 (-x) = v) (c3 : decide (0 < x) = false) :
    Calls Try.prog 7 #[.float .f64 a, .float .f64 b, .float .f64 c, .int .u8 n] w fun e w' => e = .returned (.bool true) ∧ Grown w w' := by
  subst e1
  subst a1 a2 a3
  subst c1
  go_enter Try.func7, Try.ntmps7
  go_wp2_with fail
  refine (lives_any _).mono ?_
  rintro e w' ⟨rfl, rfl⟩
  go_wp2_with fail
  refine (between_at a b x _ _ ha hb h1.out h2.out).mono ?_
  rintro e w' ⟨rfl, rfl⟩
  go_wp2_with fail
  refine (between_at b c y _ _ hb hc h3.out h4.out).mono ?_
  rintro e w' ⟨rfl, rfl⟩
  go_wp2_with fail
  refine (between_at a c z _ _ ha hc h5.out h6.out).mono ?_
  rintro e w' ⟨rfl, rfl⟩
  go_wp2_with fail
  refine (fits_any x y s _ _ h7.out h8).mono ?_
  rintro e w' ⟨rfl, rfl⟩
  go_wp2_with fail
  refine (between_at b a v _ _ hb ha h9.out h10.out).mono ?_
  rintro e w' ⟨rfl, rfl⟩
  go_wp2_with fail
  refine (finite_no a _ ha hf.out).mono ?_
  rintro e w' ⟨rfl, rfl⟩
  go_wp2
  go_ret
  exact ⟨rfl, (Grown.refl _).drew⟩
set_option maxHeartbeats 2000000 in
set_option maxRecDepth 100000 in
theorem ly22 (a b c : Nat) (n x y z s v : Int) (ok also too fit back : Bool) (w : World) (ha : a < 18446744073709551616) (hb : b < 18446744073709551616) (hc : c < 18446744073709551616) (hn0 : 0 ≤ n) (hn : n ≤ 255)
    (h1 : Hid (betB a b = x)) (h2 : Hid (betOk a b = ok)) (h3 : Hid (betB b c = y)) (h4 : Hid (betOk b c = also)) (h5 : Hid (betB a c = z)) (h6 : Hid (betOk a c = too)) (h7 : Hid (wrap64 (x + y) = s)) (h8 : Hid (fitB x y = fit)) (h9 : Hid (betB b a = v)) (h10 : Hid (betOk b a = back)) (NA : Hid (isN a = false)) (hf : Hid (fin a = true))
    (e1 : ok = true) (f1 : feq a a = true) (f2 : feq b b = true) (a1 : also = true) (a2 : too = true) (a3 : fit = false) (c1 : back = false) (c3 : decide (0 < x) = false) :
    Calls Try.prog 7 #[.float .f64 a, .float .f64 b, .float .f64 c, .int .u8 n] w fun e w' => e = .returned (.bool true) ∧ Grown w w' := by
  subst e1
  subst a1 a2 a3
  subst c1
  go_enter Try.func7, Try.ntmps7
  go_wp2_with fail
  refine (lives_any _).mono ?_
  rintro e w' ⟨rfl, rfl⟩
  go_wp2_with fail
  refine (between_at a b x _ _ ha hb h1.out h2.out).mono ?_
  rintro e w' ⟨rfl, rfl⟩
  go_wp2_with fail
  refine (between_at b c y _ _ hb hc h3.out h4.out).mono ?_
  rintro e w' ⟨rfl, rfl⟩
  go_wp2_with fail
  refine (between_at a c z _ _ ha hc h5.out h6.out).mono ?_
  rintro e w' ⟨rfl, rfl⟩
  go_wp2_with fail
  refine (fits_any x y s _ _ h7.out h8).mono ?_
  rintro e w' ⟨rfl, rfl⟩
  go_wp2_with fail
  refine (between_at b a v _ _ hb ha h9.out h10.out).mono ?_
  rintro e w' ⟨rfl, rfl⟩
  go_wp2_with fail
  refine (finite_yes a _ ha hf.out).mono ?_
  rintro e w' ⟨rfl, rfl⟩
  go_wp2
  go_loop [0, 19, 20] (fun av kv iv => ∃ A j : Nat, A < 18446744073709551616 ∧ isN A = false ∧ av = .float .f64 A ∧ kv = .int .i64 j ∧ iv = .int .u8 j ∧ j ≤ 63) (fun _ _ iv => 64 - (intOf iv).toNat)
  case atStart => exact ⟨a, 0, ha, NA.out, rfl, rfl, rfl, by omega⟩
  case round =>
    obtain ⟨A, j, hA, nA, rfl, rfl, rfl, hj⟩ := hrel
    clear h1 h2 h3 h4 h5 h6 h7 h8 h9 h10 hf
    by_cases hlt : (j : Int) < n % 64
    · cases fA : fin A
      · have FA := hid fA
        clear fA
        go_wp2_with fail
        refine (finite_no A _ hA FA.out).mono ?_
        rintro e w' ⟨rfl, rfl⟩
        go_wp2
        go_ret
        exact ⟨by simp; omega, (Grown.refl _).drew⟩
      · have FA := hid fA
        clear fA
        have fAA : feq A A = true := by rw [feq_self A hA, nA]; rfl
        obtain ⟨U, d, is, e0, was, hU, lU, nU, b1, b2, b3, b4, hde⟩ := round_fact A c hA nA FA.out
        have HU := hid hU
        have B1 := hid b1
        have B2 := hid b2
        have B3 := hid b3
        have B4 := hid b4
        have NU := hid nU
        clear hU b1 b2 b3 b4 nU nA
        cases is
        · clear hde
          go_wp2_with fail
          refine (finite_yes A _ hA FA.out).mono ?_
          rintro e w' ⟨rfl, rfl⟩
          go_wp2_with fail
          refine (up_at A U _ hA HU.out).mono ?_
          rintro e w' ⟨rfl, rfl⟩
          go_wp2_with fail
          refine (between_at c U d _ _ hc lU B1.out B2.out).mono ?_
          rintro e w' ⟨rfl, rfl⟩
          go_wp2_with fail
          refine (between_at c A e0 _ _ hc hA B3.out B4.out).mono ?_
          rintro e w' ⟨rfl, rfl⟩
          go_wp2
          go_round
          case rel => exact ⟨U, j + 1, lU, NU.out, rfl, by go_num, by go_num, by omega⟩
          case measure => simp [intOf]; omega
        · cases was
          · clear hde
            go_wp2_with fail
            refine (finite_yes A _ hA FA.out).mono ?_
            rintro e w' ⟨rfl, rfl⟩
            go_wp2_with fail
            refine (up_at A U _ hA HU.out).mono ?_
            rintro e w' ⟨rfl, rfl⟩
            go_wp2_with fail
            refine (between_at c U d _ _ hc lU B1.out B2.out).mono ?_
            rintro e w' ⟨rfl, rfl⟩
            go_wp2_with fail
            refine (between_at c A e0 _ _ hc hA B3.out B4.out).mono ?_
            rintro e w' ⟨rfl, rfl⟩
            go_wp2
            go_round
            case rel => exact ⟨U, j + 1, lU, NU.out, rfl, by go_num, by go_num, by omega⟩
            case measure => simp [intOf]; omega
          · have hd2 := hde rfl rfl
            clear hde
            go_wp2_with fail
            refine (finite_yes A _ hA FA.out).mono ?_
            rintro e w' ⟨rfl, rfl⟩
            go_wp2_with fail
            refine (up_at A U _ hA HU.out).mono ?_
            rintro e w' ⟨rfl, rfl⟩
            go_wp2_with fail
            refine (between_at c U d _ _ hc lU B1.out B2.out).mono ?_
            rintro e w' ⟨rfl, rfl⟩
            go_wp2_with fail
            refine (between_at c A e0 _ _ hc hA B3.out B4.out).mono ?_
            rintro e w' ⟨rfl, rfl⟩
            go_wp2
            go_round
            case rel => exact ⟨U, j + 1, lU, NU.out, rfl, by go_num, by go_num, by omega⟩
            case measure => simp [intOf]; omega
    · go_wp2
      go_ret
      exact ⟨by simp; omega, Grown.refl _⟩
set_option maxHeartbeats 2000000 in
set_option maxRecDepth 100000 in
theorem sy22 (a b c : Nat) (n x y z s v : Int) (ok also too fit back : Bool) (w : World) (ha : a < 18446744073709551616) (hb : b < 18446744073709551616) (hc : c < 18446744073709551616)
    (h1 : Hid (betB a b = x)) (h2 : Hid (betOk a b = ok)) (h3 : Hid (betB b c = y)) (h4 : Hid (betOk b c = also)) (h5 : Hid (betB a c = z)) (h6 : Hid (betOk a c = too)) (h7 : Hid (wrap64 (x + y) = s)) (h8 : Hid (fitB x y = fit)) (h9 : Hid (betB b a = v)) (h10 : Hid (betOk b a = back)) (hf : Hid (fin a = false))
    (e1 : ok = true) (f1 : feq a a = true) (f2 : feq b b = true) (a1 : also = true) (a2 : too = true) (a3 : fit = false) (c1 : back = false) (c3 : decide (0 < x) = false) :
    Calls Try.prog 7 #[.float .f64 a, .float .f64 b, .float .f64 c, .int .u8 n] w fun e w' => e = .returned (.bool true) ∧ Grown w w' := by
  subst e1
  subst a1 a2 a3
  subst c1
  go_enter Try.func7, Try.ntmps7
  go_wp2_with fail
  refine (lives_any _).mono ?_
  rintro e w' ⟨rfl, rfl⟩
  go_wp2_with fail
  refine (between_at a b x _ _ ha hb h1.out h2.out).mono ?_
  rintro e w' ⟨rfl, rfl⟩
  go_wp2_with fail
  refine (between_at b c y _ _ hb hc h3.out h4.out).mono ?_
  rintro e w' ⟨rfl, rfl⟩
  go_wp2_with fail
  refine (between_at a c z _ _ ha hc h5.out h6.out).mono ?_
  rintro e w' ⟨rfl, rfl⟩
  go_wp2_with fail
  refine (fits_any x y s _ _ h7.out h8).mono ?_
  rintro e w' ⟨rfl, rfl⟩
  go_wp2_with fail
  refine (between_at b a v _ _ hb ha h9.out h10.out).mono ?_
  rintro e w' ⟨rfl, rfl⟩
  go_wp2_with fail
  refine (finite_no a _ ha hf.out).mono ?_
  rintro e w' ⟨rfl, rfl⟩
  go_wp2
  go_ret
  exact ⟨rfl, (Grown.refl _).drew⟩
set_option maxHeartbeats 2000000 in
set_option maxRecDepth 100000 in
theorem ly30 (a b c : Nat) (n x y z s v : Int) (ok also too fit back : Bool) (w : World) (ha : a < 18446744073709551616) (hb : b < 18446744073709551616) (hc : c < 18446744073709551616) (hn0 : 0 ≤ n) (hn : n ≤ 255)
    (h1 : Hid (betB a b = x)) (h2 : Hid (betOk a b = ok)) (h3 : Hid (betB b c = y)) (h4 : Hid (betOk b c = also)) (h5 : Hid (betB a c = z)) (h6 : Hid (betOk a c = too)) (h7 : Hid (wrap64 (x + y) = s)) (h8 : Hid (fitB x y = fit)) (h9 : Hid (betB b a = v)) (h10 : Hid (betOk b a = back)) (NA : Hid (isN a = false)) (hf : Hid (fin a = true))
    (e1 : ok = true) (f1 : feq a a = true) (f2 : feq b b = true) (a1 : also = true) (a2 : too = true) (a3 : fit = true) (a4 : (s != z) = false) (c1 : back = true) (c2 : wrap64 (-x) = v) (c3 : decide (0 < x) = true) :
    Calls Try.prog 7 #[.float .f64 a, .float .f64 b, .float .f64 c, .int .u8 n] w fun e w' => e = .returned (.bool true) ∧ Grown w w' := by
  subst e1
  subst a1 a2 a3
  subst c1
  go_enter Try.func7, Try.ntmps7
  go_wp2_with fail
  refine (lives_any _).mono ?_
  rintro e w' ⟨rfl, rfl⟩
  go_wp2_with fail
  refine (between_at a b x _ _ ha hb h1.out h2.out).mono ?_
  rintro e w' ⟨rfl, rfl⟩
  go_wp2_with fail
  refine (between_at b c y _ _ hb hc h3.out h4.out).mono ?_
  rintro e w' ⟨rfl, rfl⟩
  go_wp2_with fail
  refine (between_at a c z _ _ ha hc h5.out h6.out).mono ?_
  rintro e w' ⟨rfl, rfl⟩
  go_wp2_with fail
  refine (fits_any x y s _ _ h7.out h8).mono ?_
  rintro e w' ⟨rfl, rfl⟩
  go_wp2_with fail
  refine (between_at b a v _ _ hb ha h9.out h10.out).mono ?_
  rintro e w' ⟨rfl, rfl⟩
  go_wp2_with fail
  refine (finite_yes a _ ha hf.out).mono ?_
  rintro e w' ⟨rfl, rfl⟩
  go_wp2
  go_loop [0, 19, 20] (fun av kv iv => ∃ A j : Nat, A < 18446744073709551616 ∧ isN A = false ∧ av = .float .f64 A ∧ kv = .int .i64 j ∧ iv = .int .u8 j ∧ j ≤ 63) (fun _ _ iv => 64 - (intOf iv).toNat)
  case atStart => exact ⟨a, 0, ha, NA.out, rfl, rfl, rfl, by omega⟩
  case round =>
    obtain ⟨A, j, hA, nA, rfl, rfl, rfl, hj⟩ := hrel
    clear h1 h2 h3 h4 h5 h6 h7 h8 h9 h10 hf
    by_cases hlt : (j : Int) < n % 64
    · cases fA : fin A
      · have FA := hid fA
        clear fA
        go_wp2_with fail
        refine (finite_no A _ hA FA.out).mono ?_
        rintro e w' ⟨rfl, rfl⟩
        go_wp2
        go_ret
        exact ⟨by simp; omega, (Grown.refl _).drew⟩
      · have FA := hid fA
        clear fA
        have fAA : feq A A = true := by rw [feq_self A hA, nA]; rfl
        obtain ⟨U, d, is, e0, was, hU, lU, nU, b1, b2, b3, b4, hde⟩ := round_fact A c hA nA FA.out
        have HU := hid hU
        have B1 := hid b1
        have B2 := hid b2
        have B3 := hid b3
        have B4 := hid b4
        have NU := hid nU
        clear hU b1 b2 b3 b4 nU nA
        cases is
        · clear hde
          go_wp2_with fail
          refine (finite_yes A _ hA FA.out).mono ?_
          rintro e w' ⟨rfl, rfl⟩
          go_wp2_with fail
          refine (up_at A U _ hA HU.out).mono ?_
          rintro e w' ⟨rfl, rfl⟩
          go_wp2_with fail
          refine (between_at c U d _ _ hc lU B1.out B2.out).mono ?_
          rintro e w' ⟨rfl, rfl⟩
          go_wp2_with fail
          refine (between_at c A e0 _ _ hc hA B3.out B4.out).mono ?_
          rintro e w' ⟨rfl, rfl⟩
          go_wp2
          go_round
          case rel => exact ⟨U, j + 1, lU, NU.out, rfl, by go_num, by go_num, by omega⟩
          case measure => simp [intOf]; omega
        · cases was
          · clear hde
            go_wp2_with fail
            refine (finite_yes A _ hA FA.out).mono ?_
            rintro e w' ⟨rfl, rfl⟩
            go_wp2_with fail
            refine (up_at A U _ hA HU.out).mono ?_
            rintro e w' ⟨rfl, rfl⟩
            go_wp2_with fail
            refine (between_at c U d _ _ hc lU B1.out B2.out).mono ?_
            rintro e w' ⟨rfl, rfl⟩
            go_wp2_with fail
            refine (between_at c A e0 _ _ hc hA B3.out B4.out).mono ?_
            rintro e w' ⟨rfl, rfl⟩
            go_wp2
            go_round
            case rel => exact ⟨U, j + 1, lU, NU.out, rfl, by go_num, by go_num, by omega⟩
            case measure => simp [intOf]; omega
          · have hd2 := hde rfl rfl
            clear hde
            go_wp2_with fail
            refine (finite_yes A _ hA FA.out).mono ?_
            rintro e w' ⟨rfl, rfl⟩
            go_wp2_with fail
            refine (up_at A U _ hA HU.out).mono ?_
            rintro e w' ⟨rfl, rfl⟩
            go_wp2_with fail
            refine (between_at c U d _ _ hc lU B1.out B2.out).mono ?_
            rintro e w' ⟨rfl, rfl⟩
            go_wp2_with fail
            refine (between_at c A e0 _ _ hc hA B3.out B4.out).mono ?_
            rintro e w' ⟨rfl, rfl⟩
            go_wp2
            go_round
            case rel => exact ⟨U, j + 1, lU, NU.out, rfl, by go_num, by go_num, by omega⟩
            case measure => simp [intOf]; omega
    · go_wp2
      go_ret
      exact ⟨by simp; omega, Grown.refl _⟩
set_option maxHeartbeats 2000000 in
set_option maxRecDepth 100000 in
theorem sy30 (a b c : Nat) (n x y z s v : Int) (ok also too fit back : Bool) (w : World) (ha : a < 18446744073709551616) (hb : b < 18446744073709551616) (hc : c < 18446744073709551616)
    (h1 : Hid (betB a b = x)) (h2 : Hid (betOk a b = ok)) (h3 : Hid (betB b c = y)) (h4 : Hid (betOk b c = also)) (h5 : Hid (betB a c = z)) (h6 : Hid (betOk a c = too)) (h7 : Hid (wrap64 (x + y) = s)) (h8 : Hid (fitB x y = fit)) (h9 : Hid (betB b a = v)) (h10 : Hid (betOk b a = back)) (hf : Hid (fin a = false))
    (e1 : ok = true) (f1 : feq a a = true) (f2 : feq b b = true) (a1 : also = true) (a2 : too = true) (a3 : fit = true) (a4 : (s != z) = false) (c1 : back = true) (c2 : wrap64 (-x) = v) (c3 : decide (0 < x) = true) :
    Calls Try.prog 7 #[.float .f64 a, .float .f64 b, .float .f64 c, .int .u8 n] w fun e w' => e = .returned (.bool true) ∧ Grown w w' := by
  subst e1
  subst a1 a2 a3
  subst c1
  go_enter Try.func7, Try.ntmps7
  go_wp2_with fail
  refine (lives_any _).mono ?_
  rintro e w' ⟨rfl, rfl⟩
  go_wp2_with fail
  refine (between_at a b x _ _ ha hb h1.out h2.out).mono ?_
  rintro e w' ⟨rfl, rfl⟩
  go_wp2_with fail
  refine (between_at b c y _ _ hb hc h3.out h4.out).mono ?_
  rintro e w' ⟨rfl, rfl⟩
  go_wp2_with fail
  refine (between_at a c z _ _ ha hc h5.out h6.out).mono ?_
  rintro e w' ⟨rfl, rfl⟩
  go_wp2_with fail
  refine (fits_any x y s _ _ h7.out h8).mono ?_
  rintro e w' ⟨rfl, rfl⟩
  go_wp2_with fail
  refine (between_at b a v _ _ hb ha h9.out h10.out).mono ?_
  rintro e w' ⟨rfl, rfl⟩
  go_wp2_with fail
  refine (finite_no a _ ha hf.out).mono ?_
  rintro e w' ⟨rfl, rfl⟩
  go_wp2
  go_ret
  exact ⟨rfl, (Grown.refl _).drew⟩
set_option maxHeartbeats 2000000 in
set_option maxRecDepth 100000 in
theorem ly31 (a b c : Nat) (n x y z s v : Int) (ok also too fit back : Bool) (w : World) (ha : a < 18446744073709551616) (hb : b < 18446744073709551616) (hc : c < 18446744073709551616) (hn0 : 0 ≤ n) (hn : n ≤ 255)
    (h1 : Hid (betB a b = x)) (h2 : Hid (betOk a b = ok)) (h3 : Hid (betB b c = y)) (h4 : Hid (betOk b c = also)) (h5 : Hid (betB a c = z)) (h6 : Hid (betOk a c = too)) (h7 : Hid (wrap64 (x + y) = s)) (h8 : Hid (fitB x y = fit)) (h9 : Hid (betB b a = v)) (h10 : Hid (betOk b a = back)) (NA : Hid (isN a = false)) (hf : Hid (fin a = true))
    (e1 : ok = true) (f1 : feq a a = true) (f2 : feq b b = true) (a1 : also = true) (a2 : too = true) (a3 : fit = true) (a4 : (s != z) = false) (c1 : back = true) (c2 : wrap64 (-x) = v) (c3 : decide (0 < x) = false) :
    Calls Try.prog 7 #[.float .f64 a, .float .f64 b, .float .f64 c, .int .u8 n] w fun e w' => e = .returned (.bool true) ∧ Grown w w' := by
  subst e1
  subst a1 a2 a3
  subst c1
  go_enter Try.func7, Try.ntmps7
  go_wp2_with fail
  refine (lives_any _).mono ?_
  rintro e w' ⟨rfl, rfl⟩
  go_wp2_with fail
  refine (between_at a b x _ _ ha hb h1.out h2.out).mono ?_
  rintro e w' ⟨rfl, rfl⟩
  go_wp2_with fail
  refine (between_at b c y _ _ hb hc h3.out h4.out).mono ?_
  rintro e w' ⟨rfl, rfl⟩
  go_wp2_with fail
  refine (between_at a c z _ _ ha hc h5.out h6.out).mono ?_
  rintro e w' ⟨rfl, rfl⟩
  go_wp2_with fail
  refine (fits_any x y s _ _ h7.out h8).mono ?_
  rintro e w' ⟨rfl, rfl⟩
  go_wp2_with fail
  refine (between_at b a v _ _ hb ha h9.out h10.out).mono ?_
  rintro e w' ⟨rfl, rfl⟩
  go_wp2_with fail
  refine (finite_yes a _ ha hf.out).mono ?_
  rintro e w' ⟨rfl, rfl⟩
  go_wp2
  go_loop [0, 19, 20] (fun av kv iv => ∃ A j : Nat, A < 18446744073709551616 ∧ isN A = false ∧ av = .float .f64 A ∧ kv = .int .i64 j ∧ iv = .int .u8 j ∧ j ≤ 63) (fun _ _ iv => 64 - (intOf iv).toNat)
  case atStart => exact ⟨a, 0, ha, NA.out, rfl, rfl, rfl, by omega⟩
  case round =>
    obtain ⟨A, j, hA, nA, rfl, rfl, rfl, hj⟩ := hrel
    clear h1 h2 h3 h4 h5 h6 h7 h8 h9 h10 hf
    by_cases hlt : (j : Int) < n % 64
    · cases fA : fin A
      · have FA := hid fA
        clear fA
        go_wp2_with fail
        refine (finite_no A _ hA FA.out).mono ?_
        rintro e w' ⟨rfl, rfl⟩
        go_wp2
        go_ret
        exact ⟨by simp; omega, (Grown.refl _).drew⟩
      · have FA := hid fA
        clear fA
        have fAA : feq A A = true := by rw [feq_self A hA, nA]; rfl
        obtain ⟨U, d, is, e0, was, hU, lU, nU, b1, b2, b3, b4, hde⟩ := round_fact A c hA nA FA.out
        have HU := hid hU
        have B1 := hid b1
        have B2 := hid b2
        have B3 := hid b3
        have B4 := hid b4
        have NU := hid nU
        clear hU b1 b2 b3 b4 nU nA
        cases is
        · clear hde
          go_wp2_with fail
          refine (finite_yes A _ hA FA.out).mono ?_
          rintro e w' ⟨rfl, rfl⟩
          go_wp2_with fail
          refine (up_at A U _ hA HU.out).mono ?_
          rintro e w' ⟨rfl, rfl⟩
          go_wp2_with fail
          refine (between_at c U d _ _ hc lU B1.out B2.out).mono ?_
          rintro e w' ⟨rfl, rfl⟩
          go_wp2_with fail
          refine (between_at c A e0 _ _ hc hA B3.out B4.out).mono ?_
          rintro e w' ⟨rfl, rfl⟩
          go_wp2
          go_round
          case rel => exact ⟨U, j + 1, lU, NU.out, rfl, by go_num, by go_num, by omega⟩
          case measure => simp [intOf]; omega
        · cases was
          · clear hde
            go_wp2_with fail
            refine (finite_yes A _ hA FA.out).mono ?_
            rintro e w' ⟨rfl, rfl⟩
            go_wp2_with fail
            refine (up_at A U _ hA HU.out).mono ?_
            rintro e w' ⟨rfl, rfl⟩
            go_wp2_with fail
            refine (between_at c U d _ _ hc lU B1.out B2.out).mono ?_
            rintro e w' ⟨rfl, rfl⟩
            go_wp2_with fail
            refine (between_at c A e0 _ _ hc hA B3.out B4.out).mono ?_
            rintro e w' ⟨rfl, rfl⟩
            go_wp2
            go_round
            case rel => exact ⟨U, j + 1, lU, NU.out, rfl, by go_num, by go_num, by omega⟩
            case measure => simp [intOf]; omega
          · have hd2 := hde rfl rfl
            clear hde
            go_wp2_with fail
            refine (finite_yes A _ hA FA.out).mono ?_
            rintro e w' ⟨rfl, rfl⟩
            go_wp2_with fail
            refine (up_at A U _ hA HU.out).mono ?_
            rintro e w' ⟨rfl, rfl⟩
            go_wp2_with fail
            refine (between_at c U d _ _ hc lU B1.out B2.out).mono ?_
            rintro e w' ⟨rfl, rfl⟩
            go_wp2_with fail
            refine (between_at c A e0 _ _ hc hA B3.out B4.out).mono ?_
            rintro e w' ⟨rfl, rfl⟩
            go_wp2
            go_round
            case rel => exact ⟨U, j + 1, lU, NU.out, rfl, by go_num, by go_num, by omega⟩
            case measure => simp [intOf]; omega
    · go_wp2
      go_ret
      exact ⟨by simp; omega, Grown.refl _⟩
set_option maxHeartbeats 2000000 in
set_option maxRecDepth 100000 in
theorem sy31 (a b c : Nat) (n x y z s v : Int) (ok also too fit back : Bool) (w : World) (ha : a < 18446744073709551616) (hb : b < 18446744073709551616) (hc : c < 18446744073709551616)
    (h1 : Hid (betB a b = x)) (h2 : Hid (betOk a b = ok)) (h3 : Hid (betB b c = y)) (h4 : Hid (betOk b c = also)) (h5 : Hid (betB a c = z)) (h6 : Hid (betOk a c = too)) (h7 : Hid (wrap64 (x + y) = s)) (h8 : Hid (fitB x y = fit)) (h9 : Hid (betB b a = v)) (h10 : Hid (betOk b a = back)) (hf : Hid (fin a = false))
    (e1 : ok = true) (f1 : feq a a = true) (f2 : feq b b = true) (a1 : also = true) (a2 : too = true) (a3 : fit = true) (a4 : (s != z) = false) (c1 : back = true) (c2 : wrap64 (-x) = v) (c3 : decide (0 < x) = false) :
    Calls Try.prog 7 #[.float .f64 a, .float .f64 b, .float .f64 c, .int .u8 n] w fun e w' => e = .returned (.bool true) ∧ Grown w w' := by
  subst e1
  subst a1 a2 a3
  subst c1
  go_enter Try.func7, Try.ntmps7
  go_wp2_with fail
  refine (lives_any _).mono ?_
  rintro e w' ⟨rfl, rfl⟩
  go_wp2_with fail
  refine (between_at a b x _ _ ha hb h1.out h2.out).mono ?_
  rintro e w' ⟨rfl, rfl⟩
  go_wp2_with fail
  refine (between_at b c y _ _ hb hc h3.out h4.out).mono ?_
  rintro e w' ⟨rfl, rfl⟩
  go_wp2_with fail
  refine (between_at a c z _ _ ha hc h5.out h6.out).mono ?_
  rintro e w' ⟨rfl, rfl⟩
  go_wp2_with fail
  refine (fits_any x y s _ _ h7.out h8).mono ?_
  rintro e w' ⟨rfl, rfl⟩
  go_wp2_with fail
  refine (between_at b a v _ _ hb ha h9.out h10.out).mono ?_
  rintro e w' ⟨rfl, rfl⟩
  go_wp2_with fail
  refine (finite_no a _ ha hf.out).mono ?_
  rintro e w' ⟨rfl, rfl⟩
  go_wp2
  go_ret
  exact ⟨rfl, (Grown.refl _).drew⟩
set_option maxHeartbeats 2000000 in
set_option maxRecDepth 100000 in
theorem ly32 (a b c : Nat) (n x y z s v : Int) (ok also too fit back : Bool) (w : World) (ha : a < 18446744073709551616) (hb : b < 18446744073709551616) (hc : c < 18446744073709551616) (hn0 : 0 ≤ n) (hn : n ≤ 255)
    (h1 : Hid (betB a b = x)) (h2 : Hid (betOk a b = ok)) (h3 : Hid (betB b c = y)) (h4 : Hid (betOk b c = also)) (h5 : Hid (betB a c = z)) (h6 : Hid (betOk a c = too)) (h7 : Hid (wrap64 (x + y) = s)) (h8 : Hid (fitB x y = fit)) (h9 : Hid (betB b a = v)) (h10 : Hid (betOk b a = back)) (NA : Hid (isN a = false)) (hf : Hid (fin a = true))
    (e1 : ok = true) (f1 : feq a a = true) (f2 : feq b b = true) (a1 : also = true) (a2 : too = true) (a3 : fit = true) (a4 : (s != z) = false) (c1 : back = false) (c3 : decide (0 < x) = false) :
    Calls Try.prog 7 #[.float .f64 a, .float .f64 b, .float .f64 c, .int .u8 n] w fun e w' => e = .returned (.bool true) ∧ Grown w w' := by
  subst e1
  subst a1 a2 a3
  subst c1
  go_enter Try.func7, Try.ntmps7
  go_wp2_with fail
  refine (lives_any _).mono ?_
  rintro e w' ⟨rfl, rfl⟩
  go_wp2_with fail
  refine (between_at a b x _ _ ha hb h1.out h2.out).mono ?_
  rintro e w' ⟨rfl, rfl⟩
  go_wp2_with fail
  refine (between_at b c y _ _ hb hc h3.out h4.out).mono ?_
  rintro e w' ⟨rfl, rfl⟩
  go_wp2_with fail
  refine (between_at a c z _ _ ha hc h5.out h6.out).mono ?_
  rintro e w' ⟨rfl, rfl⟩
  go_wp2_with fail
  refine (fits_any x y s _ _ h7.out h8).mono ?_
  rintro e w' ⟨rfl, rfl⟩
  go_wp2_with fail
  refine (between_at b a v _ _ hb ha h9.out h10.out).mono ?_
  rintro e w' ⟨rfl, rfl⟩
  go_wp2_with fail
  refine (finite_yes a _ ha hf.out).mono ?_
  rintro e w' ⟨rfl, rfl⟩
  go_wp2
  go_loop [0, 19, 20] (fun av kv iv => ∃ A j : Nat, A < 18446744073709551616 ∧ isN A = false ∧ av = .float .f64 A ∧ kv = .int .i64 j ∧ iv = .int .u8 j ∧ j ≤ 63) (fun _ _ iv => 64 - (intOf iv).toNat)
  case atStart => exact ⟨a, 0, ha, NA.out, rfl, rfl, rfl, by omega⟩
  case round =>
    obtain ⟨A, j, hA, nA, rfl, rfl, rfl, hj⟩ := hrel
    clear h1 h2 h3 h4 h5 h6 h7 h8 h9 h10 hf
    by_cases hlt : (j : Int) < n % 64
    · cases fA : fin A
      · have FA := hid fA
        clear fA
        go_wp2_with fail
        refine (finite_no A _ hA FA.out).mono ?_
        rintro e w' ⟨rfl, rfl⟩
        go_wp2
        go_ret
        exact ⟨by simp; omega, (Grown.refl _).drew⟩
      · have FA := hid fA
        clear fA
        have fAA : feq A A = true := by rw [feq_self A hA, nA]; rfl
        obtain ⟨U, d, is, e0, was, hU, lU, nU, b1, b2, b3, b4, hde⟩ := round_fact A c hA nA FA.out
        have HU := hid hU
        have B1 := hid b1
        have B2 := hid b2
        have B3 := hid b3
        have B4 := hid b4
        have NU := hid nU
        clear hU b1 b2 b3 b4 nU nA
        cases is
        · clear hde
          go_wp2_with fail
          refine (finite_yes A _ hA FA.out).mono ?_
          rintro e w' ⟨rfl, rfl⟩
          go_wp2_with fail
          refine (up_at A U _ hA HU.out).mono ?_
          rintro e w' ⟨rfl, rfl⟩
          go_wp2_with fail
          refine (between_at c U d _ _ hc lU B1.out B2.out).mono ?_
          rintro e w' ⟨rfl, rfl⟩
          go_wp2_with fail
          refine (between_at c A e0 _ _ hc hA B3.out B4.out).mono ?_
          rintro e w' ⟨rfl, rfl⟩
          go_wp2
          go_round
          case rel => exact ⟨U, j + 1, lU, NU.out, rfl, by go_num, by go_num, by omega⟩
          case measure => simp [intOf]; omega
        · cases was
          · clear hde
            go_wp2_with fail
            refine (finite_yes A _ hA FA.out).mono ?_
            rintro e w' ⟨rfl, rfl⟩
            go_wp2_with fail
            refine (up_at A U _ hA HU.out).mono ?_
            rintro e w' ⟨rfl, rfl⟩
            go_wp2_with fail
            refine (between_at c U d _ _ hc lU B1.out B2.out).mono ?_
            rintro e w' ⟨rfl, rfl⟩
            go_wp2_with fail
            refine (between_at c A e0 _ _ hc hA B3.out B4.out).mono ?_
            rintro e w' ⟨rfl, rfl⟩
            go_wp2
            go_round
            case rel => exact ⟨U, j + 1, lU, NU.out, rfl, by go_num, by go_num, by omega⟩
            case measure => simp [intOf]; omega
          · have hd2 := hde rfl rfl
            clear hde
            go_wp2_with fail
            refine (finite_yes A _ hA FA.out).mono ?_
            rintro e w' ⟨rfl, rfl⟩
            go_wp2_with fail
            refine (up_at A U _ hA HU.out).mono ?_
            rintro e w' ⟨rfl, rfl⟩
            go_wp2_with fail
            refine (between_at c U d _ _ hc lU B1.out B2.out).mono ?_
            rintro e w' ⟨rfl, rfl⟩
            go_wp2_with fail
            refine (between_at c A e0 _ _ hc hA B3.out B4.out).mono ?_
            rintro e w' ⟨rfl, rfl⟩
            go_wp2
            go_round
            case rel => exact ⟨U, j + 1, lU, NU.out, rfl, by go_num, by go_num, by omega⟩
            case measure => simp [intOf]; omega
    · go_wp2
      go_ret
      exact ⟨by simp; omega, Grown.refl _⟩
set_option maxHeartbeats 2000000 in
set_option maxRecDepth 100000 in
theorem sy32 (a b c : Nat) (n x y z s v : Int) (ok also too fit back : Bool) (w : World) (ha : a < 18446744073709551616) (hb : b < 18446744073709551616) (hc : c < 18446744073709551616)
    (h1 : Hid (betB a b = x)) (h2 : Hid (betOk a b = ok)) (h3 : Hid (betB b c = y)) (h4 : Hid (betOk b c = also)) (h5 : Hid (betB a c = z)) (h6 : Hid (betOk a c = too)) (h7 : Hid (wrap64 (x + y) = s)) (h8 : Hid (fitB x y = fit)) (h9 : Hid (betB b a = v)) (h10 : Hid (betOk b a = back)) (hf : Hid (fin a = false))
    (e1 : ok = true) (f1 : feq a a = true) (f2 : feq b b = true) (a1 : also = true) (a2 : too = true) (a3 : fit = true) (a4 : (s != z) = false) (c1 : back = false) (c3 : decide (0 < x) = false) :
    Calls Try.prog 7 #[.float .f64 a, .float .f64 b, .float .f64 c, .int .u8 n] w fun e w' => e = .returned (.bool true) ∧ Grown w w' := by
  subst e1
  subst a1 a2 a3
  subst c1
  go_enter Try.func7, Try.ntmps7
  go_wp2_with fail
  refine (lives_any _).mono ?_
  rintro e w' ⟨rfl, rfl⟩
  go_wp2_with fail
  refine (between_at a b x _ _ ha hb h1.out h2.out).mono ?_
  rintro e w' ⟨rfl, rfl⟩
  go_wp2_with fail
  refine (between_at b c y _ _ hb hc h3.out h4.out).mono ?_
  rintro e w' ⟨rfl, rfl⟩
  go_wp2_with fail
  refine (between_at a c z _ _ ha hc h5.out h6.out).mono ?_
  rintro e w' ⟨rfl, rfl⟩
  go_wp2_with fail
  refine (fits_any x y s _ _ h7.out h8).mono ?_
  rintro e w' ⟨rfl, rfl⟩
  go_wp2_with fail
  refine (between_at b a v _ _ hb ha h9.out h10.out).mono ?_
  rintro e w' ⟨rfl, rfl⟩
  go_wp2_with fail
  refine (finite_no a _ ha hf.out).mono ?_
  rintro e w' ⟨rfl, rfl⟩
  go_wp2
  go_ret
  exact ⟨rfl, (Grown.refl _).drew⟩

theorem bet_ok {a b : Nat} (h : betOk a b = true) : isN a = false ∧ isN b = false ∧ -9223372036854775808 ≤ rk b - rk a ∧ rk b - rk a < 9223372036854775808 ∧ betB a b = rk b - rk a := by
  have e : betB a b = rk b - rk a := by unfold betB; rw [h]; rfl
  unfold betOk betD at h
  simp only [Bool.and_eq_true, decide_eq_true_eq, Bool.not_eq_true'] at h
  exact ⟨h.1.1.1, h.1.1.2, h.1.2, h.2, e⟩
theorem walk (a0 : Nat) (a1 : Nat) (a2 : Nat) (a3 : Int) (w0 : (Lit.float .f64 a0).wf = true) (w1 : (Lit.float .f64 a1).wf = true) (w2 : (Lit.float .f64 a2).wf = true) (w3 : (Lit.int .u8 a3).wf = true) (w : World) :
    Calls Try.prog 7 #[.float .f64 a0, .float .f64 a1, .float .f64 a2, .int .u8 a3] w fun e w' => e = .returned (.bool true) ∧ Grown w w' := by
  have ha := lit_lt w0
  have hb := lit_lt w1
  have hc := lit_lt w2
  have hn : 0 ≤ a3 ∧ a3 ≤ 255 := by simpa [Lit.wf, IntKind.min, IntKind.max, IntKind.bits, IntKind.signed] using w3
  cases fa : fin a0
  · cases e1 : betOk a0 a1
    · have e2 : (betB a0 a1 != 0) = false := by unfold betB; rw [e1]; rfl
      cases f1 : feq a0 a0
      · exact sn0 a0 a1 a2 a3 _ _ _ _ _ _ _ _ _ _ w ha hb hc rfl rfl rfl rfl rfl rfl rfl rfl rfl rfl fa e1 e2 f1
      · cases f2 : feq a1 a1
        · exact sn1 a0 a1 a2 a3 _ _ _ _ _ _ _ _ _ _ w ha hb hc rfl rfl rfl rfl rfl rfl rfl rfl rfl rfl fa e1 e2 f1 f2
        · exact sn2 a0 a1 a2 a3 _ _ _ _ _ _ _ _ _ _ w ha hb hc rfl rfl rfl rfl rfl rfl rfl rfl rfl rfl fa e1 e2 f1 f2
    · have q := bet_ok e1
      have f1 : feq a0 a0 = true := by rw [feq_self a0 ha, q.1]; rfl
      have f2 : feq a1 a1 = true := by rw [feq_self a1 hb, q.2.1]; rfl
      have back : ∀ h : betOk a1 a0 = true, wrap64 (-betB a0 a1) = betB a1 a0 := by
        intro h
        have q2 := bet_ok h
        rw [q.2.2.2.2, q2.2.2.2.2]; unfold wrap64; omega
      have nback : betOk a1 a0 = false → decide (0 < betB a0 a1) = false := by
        intro h
        apply decide_eq_false
        intro hp
        rw [q.2.2.2.2] at hp
        have := bet_yes a1 a0 q.2.1 q.1 (by omega) (by omega)
        rw [this.1] at h; cases h
      have sum : betOk a1 a2 = true → betOk a0 a2 = true → (wrap64 (betB a0 a1 + betB a1 a2) != betB a0 a2) = false := by
        intro h1 h2
        have q1 := bet_ok h1
        have q2 := bet_ok h2
        rw [q.2.2.2.2, q1.2.2.2.2, q2.2.2.2.2]
        simp only [bne_eq_false_iff_eq]
        unfold wrap64; omega
      cases a1' : betOk a1 a2
      · skip
        cases c1 : betOk a1 a0
        · have c3 := nback c1
          exact sy02 a0 a1 a2 a3 _ _ _ _ _ _ _ _ _ _ w ha hb hc rfl rfl rfl rfl rfl rfl rfl rfl rfl rfl fa e1 f1 f2 a1' c1 c3
        · have c2 := back c1
          cases c3 : decide (0 < betB a0 a1)
          · exact sy01 a0 a1 a2 a3 _ _ _ _ _ _ _ _ _ _ w ha hb hc rfl rfl rfl rfl rfl rfl rfl rfl rfl rfl fa e1 f1 f2 a1' c1 c2 c3
          · exact sy00 a0 a1 a2 a3 _ _ _ _ _ _ _ _ _ _ w ha hb hc rfl rfl rfl rfl rfl rfl rfl rfl rfl rfl fa e1 f1 f2 a1' c1 c2 c3
      · cases a2' : betOk a0 a2
        · skip
          cases c1 : betOk a1 a0
          · have c3 := nback c1
            exact sy12 a0 a1 a2 a3 _ _ _ _ _ _ _ _ _ _ w ha hb hc rfl rfl rfl rfl rfl rfl rfl rfl rfl rfl fa e1 f1 f2 a1' a2' c1 c3
          · have c2 := back c1
            cases c3 : decide (0 < betB a0 a1)
            · exact sy11 a0 a1 a2 a3 _ _ _ _ _ _ _ _ _ _ w ha hb hc rfl rfl rfl rfl rfl rfl rfl rfl rfl rfl fa e1 f1 f2 a1' a2' c1 c2 c3
            · exact sy10 a0 a1 a2 a3 _ _ _ _ _ _ _ _ _ _ w ha hb hc rfl rfl rfl rfl rfl rfl rfl rfl rfl rfl fa e1 f1 f2 a1' a2' c1 c2 c3
        · have a4 := sum a1' a2'
          cases a3' : fitB (betB a0 a1) (betB a1 a2)
          · skip
            cases c1 : betOk a1 a0
            · have c3 := nback c1
              exact sy22 a0 a1 a2 a3 _ _ _ _ _ _ _ _ _ _ w ha hb hc rfl rfl rfl rfl rfl rfl rfl rfl rfl rfl fa e1 f1 f2 a1' a2' a3' c1 c3
            · have c2 := back c1
              cases c3 : decide (0 < betB a0 a1)
              · exact sy21 a0 a1 a2 a3 _ _ _ _ _ _ _ _ _ _ w ha hb hc rfl rfl rfl rfl rfl rfl rfl rfl rfl rfl fa e1 f1 f2 a1' a2' a3' c1 c2 c3
              · exact sy20 a0 a1 a2 a3 _ _ _ _ _ _ _ _ _ _ w ha hb hc rfl rfl rfl rfl rfl rfl rfl rfl rfl rfl fa e1 f1 f2 a1' a2' a3' c1 c2 c3
          · skip
            cases c1 : betOk a1 a0
            · have c3 := nback c1
              exact sy32 a0 a1 a2 a3 _ _ _ _ _ _ _ _ _ _ w ha hb hc rfl rfl rfl rfl rfl rfl rfl rfl rfl rfl fa e1 f1 f2 a1' a2' a3' a4 c1 c3
            · have c2 := back c1
              cases c3 : decide (0 < betB a0 a1)
              · exact sy31 a0 a1 a2 a3 _ _ _ _ _ _ _ _ _ _ w ha hb hc rfl rfl rfl rfl rfl rfl rfl rfl rfl rfl fa e1 f1 f2 a1' a2' a3' a4 c1 c2 c3
              · exact sy30 a0 a1 a2 a3 _ _ _ _ _ _ _ _ _ _ w ha hb hc rfl rfl rfl rfl rfl rfl rfl rfl rfl rfl fa e1 f1 f2 a1' a2' a3' a4 c1 c2 c3
  · have nA : isN a0 = false := isN_false.2 (by have h : mg a0 < 9218868437227405312 := (by unfold fin at fa; simpa using fa); omega)
    cases e1 : betOk a0 a1
    · have e2 : (betB a0 a1 != 0) = false := by unfold betB; rw [e1]; rfl
      have f1 : feq a0 a0 = true := by rw [feq_self a0 ha, nA]; rfl
      cases f2 : feq a1 a1
      · exact ln1 a0 a1 a2 a3 _ _ _ _ _ _ _ _ _ _ w ha hb hc hn.1 hn.2 rfl rfl rfl rfl rfl rfl rfl rfl rfl rfl nA fa e1 e2 f1 f2
      · exact ln2 a0 a1 a2 a3 _ _ _ _ _ _ _ _ _ _ w ha hb hc hn.1 hn.2 rfl rfl rfl rfl rfl rfl rfl rfl rfl rfl nA fa e1 e2 f1 f2
    · have q := bet_ok e1
      have f1 : feq a0 a0 = true := by rw [feq_self a0 ha, q.1]; rfl
      have f2 : feq a1 a1 = true := by rw [feq_self a1 hb, q.2.1]; rfl
      have back : ∀ h : betOk a1 a0 = true, wrap64 (-betB a0 a1) = betB a1 a0 := by
        intro h
        have q2 := bet_ok h
        rw [q.2.2.2.2, q2.2.2.2.2]; unfold wrap64; omega
      have nback : betOk a1 a0 = false → decide (0 < betB a0 a1) = false := by
        intro h
        apply decide_eq_false
        intro hp
        rw [q.2.2.2.2] at hp
        have := bet_yes a1 a0 q.2.1 q.1 (by omega) (by omega)
        rw [this.1] at h; cases h
      have sum : betOk a1 a2 = true → betOk a0 a2 = true → (wrap64 (betB a0 a1 + betB a1 a2) != betB a0 a2) = false := by
        intro h1 h2
        have q1 := bet_ok h1
        have q2 := bet_ok h2
        rw [q.2.2.2.2, q1.2.2.2.2, q2.2.2.2.2]
        simp only [bne_eq_false_iff_eq]
        unfold wrap64; omega
      cases a1' : betOk a1 a2
      · skip
        cases c1 : betOk a1 a0
        · have c3 := nback c1
          exact ly02 a0 a1 a2 a3 _ _ _ _ _ _ _ _ _ _ w ha hb hc hn.1 hn.2 rfl rfl rfl rfl rfl rfl rfl rfl rfl rfl nA fa e1 f1 f2 a1' c1 c3
        · have c2 := back c1
          cases c3 : decide (0 < betB a0 a1)
          · exact ly01 a0 a1 a2 a3 _ _ _ _ _ _ _ _ _ _ w ha hb hc hn.1 hn.2 rfl rfl rfl rfl rfl rfl rfl rfl rfl rfl nA fa e1 f1 f2 a1' c1 c2 c3
          · exact ly00 a0 a1 a2 a3 _ _ _ _ _ _ _ _ _ _ w ha hb hc hn.1 hn.2 rfl rfl rfl rfl rfl rfl rfl rfl rfl rfl nA fa e1 f1 f2 a1' c1 c2 c3
      · cases a2' : betOk a0 a2
        · skip
          cases c1 : betOk a1 a0
          · have c3 := nback c1
            exact ly12 a0 a1 a2 a3 _ _ _ _ _ _ _ _ _ _ w ha hb hc hn.1 hn.2 rfl rfl rfl rfl rfl rfl rfl rfl rfl rfl nA fa e1 f1 f2 a1' a2' c1 c3
          · have c2 := back c1
            cases c3 : decide (0 < betB a0 a1)
            · exact ly11 a0 a1 a2 a3 _ _ _ _ _ _ _ _ _ _ w ha hb hc hn.1 hn.2 rfl rfl rfl rfl rfl rfl rfl rfl rfl rfl nA fa e1 f1 f2 a1' a2' c1 c2 c3
            · exact ly10 a0 a1 a2 a3 _ _ _ _ _ _ _ _ _ _ w ha hb hc hn.1 hn.2 rfl rfl rfl rfl rfl rfl rfl rfl rfl rfl nA fa e1 f1 f2 a1' a2' c1 c2 c3
        · have a4 := sum a1' a2'
          cases a3' : fitB (betB a0 a1) (betB a1 a2)
          · skip
            cases c1 : betOk a1 a0
            · have c3 := nback c1
              exact ly22 a0 a1 a2 a3 _ _ _ _ _ _ _ _ _ _ w ha hb hc hn.1 hn.2 rfl rfl rfl rfl rfl rfl rfl rfl rfl rfl nA fa e1 f1 f2 a1' a2' a3' c1 c3
            · have c2 := back c1
              cases c3 : decide (0 < betB a0 a1)
              · exact ly21 a0 a1 a2 a3 _ _ _ _ _ _ _ _ _ _ w ha hb hc hn.1 hn.2 rfl rfl rfl rfl rfl rfl rfl rfl rfl rfl nA fa e1 f1 f2 a1' a2' a3' c1 c2 c3
              · exact ly20 a0 a1 a2 a3 _ _ _ _ _ _ _ _ _ _ w ha hb hc hn.1 hn.2 rfl rfl rfl rfl rfl rfl rfl rfl rfl rfl nA fa e1 f1 f2 a1' a2' a3' c1 c2 c3
          · skip
            cases c1 : betOk a1 a0
            · have c3 := nback c1
              exact ly32 a0 a1 a2 a3 _ _ _ _ _ _ _ _ _ _ w ha hb hc hn.1 hn.2 rfl rfl rfl rfl rfl rfl rfl rfl rfl rfl nA fa e1 f1 f2 a1' a2' a3' a4 c1 c3
            · have c2 := back c1
              cases c3 : decide (0 < betB a0 a1)
              · exact ly31 a0 a1 a2 a3 _ _ _ _ _ _ _ _ _ _ w ha hb hc hn.1 hn.2 rfl rfl rfl rfl rfl rfl rfl rfl rfl rfl nA fa e1 f1 f2 a1' a2' a3' a4 c1 c2 c3
              · exact ly30 a0 a1 a2 a3 _ _ _ _ _ _ _ _ _ _ w ha hb hc hn.1 hn.2 rfl rfl rfl rfl rfl rfl rfl rfl rfl rfl nA fa e1 f1 f2 a1' a2' a3' a4 c1 c2 c3

set_option maxRecDepth 100000 in
theorem lifted (os : Os) (started : os.Started) (H : Type) (enc : TypeId × Value → H) :
    ReturnsInHanded {} Try.checked os 7 .any (Rows.bitsBetweenSpec.pre6 enc Try.prog Try.f7 Rows.bitsBetweenRow.domain false) (Rows.bitsBetweenSpec.post enc Try.prog Try.f7 false true false false) := by
  refine returnsInHanded_of_change (C := Try.checked) own started (by kernel_rfl) Try.func7
    (ChangeSpec.witness6 (enc := enc) (C := Try.checked) false ⟨#[], #[.float .f64 0, .float .f64 0, .float .f64 0, .int .u8 0], []⟩ 8 (by kernel_rfl) (by kernel_rfl) (by kernel_rfl) (by kernel_rfl)) ?_
  intro W base args ds gs before hval0 hW hcnd _
  have hval : ∀ (j : Nat) t v, Try.f7.params[j]? = some t → args[j]? = some v → Value.okWide Try.prog W .any base t v := hval0
  have hW' := hW
  obtain ⟨p, q, hA0, hV, rfl, hfz, hnd⟩ := hW
  have hA : DataW.TrodAll enc Try.prog W 0 (fun _ => true) true Try.f7.params.toList args.toList ds p := hA0
  rw [Try.params7] at hA hval
  obtain ⟨v0, vs0, d0, ds0, p0, q0, hargs, rfl, rfl, h0, r0⟩ := trodAll_cons hA
  obtain ⟨v1, vs1, d1, ds1, p1, q1, rfl, rfl, rfl, h1, r1⟩ := trodAll_cons r0
  obtain ⟨v2, vs2, d2, ds2, p2, q2, rfl, rfl, rfl, h2, r2⟩ := trodAll_cons r1
  obtain ⟨v3, vs3, d3, ds3, p3, q3, rfl, rfl, rfl, h3, r3⟩ := trodAll_cons r2
  obtain ⟨rfl, rfl, rfl⟩ := trodAll_nil r3
  obtain rfl : args = #[v0, v1, v2, v3] := by cases args; simp_all
  obtain ⟨rfl, rfl⟩ := trodVars_none hV
  obtain ⟨a0, rfl, rfl, rfl, w0⟩ := open_float Try.underlying25 (hval 0 25 v0 rfl rfl) h0
  obtain ⟨a1, rfl, rfl, rfl, w1⟩ := open_float Try.underlying25 (hval 1 25 v1 rfl rfl) h1
  obtain ⟨a2, rfl, rfl, rfl, w2⟩ := open_float Try.underlying25 (hval 2 25 v2 rfl rfl) h2
  obtain ⟨a3, rfl, rfl, rfl, w3⟩ := open_int Try.underlying5 (hval 3 5 v3 rfl rfl) h3
  clear hA0 hval0
  simp only [List.append_nil] at hW'
  refine (walk a0 a1 a2 a3 w0 w1 w2 w3 W).mono fun e W' ⟨he, hg⟩ => ?_
  subst he
  exact ⟨_, rfl, post_of_same (pa := []) (pv := []) hW' (fun _ _ _ => (trodAll_cons_mk (shut_bool Try.underlying4 _) trodAll_mk0)) (fun sp _ => (trodAll_cons_mk (shut_float Try.underlying25 w0) (trodAll_cons_mk (shut_float Try.underlying25 w1) (trodAll_cons_mk (shut_float Try.underlying25 w2) (trodAll_cons_mk (shut_int Try.underlying5 w3) trodAll_mk0))))) (fun _ _ => rfl) rfl
    (hg.frame _) hg.2.1 (ok_one (by kernel_rfl) rfl (okWide_bool_mk Try.underlying4 _))⟩

theorem over : Rows.bitsBetweenRow.holds Try.pinned (OpenSpec.ofChange Rows.bitsBetweenSpec) :=
  OpenClaim.holds_of_wide 7 Try.f7 rfl rfl rfl rfl rfl rfl rfl ⟨rfl, rfl, rfl, rfl, rfl⟩ rfl rfl rfl rfl rfl (by kernel_rfl) Try.func7 (by kernel_rfl)
    (of_decide_eq_true (by kernel_rfl)) (by unfold Func.isWrapper; first | (rw [if_pos (by decide +kernel)]; kernel_rfl) | (rw [if_neg (by decide +kernel)]; exact ⟨rfl, rfl⟩))
    (fun os started H enc _ => lifted os started H enc)

end Go.Proofs.Ytedobmladjhdkaa.bitsBetweenDone
namespace Go.Proofs.Ytedobmladjhdkaa
theorem bitsBetween_holds : Rows.BitsBetweenSaid := bitsBetweenDone.over
#print axioms bitsBetween_holds
end Go.Proofs.Ytedobmladjhdkaa
