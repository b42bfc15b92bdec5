/-
  What Sum of package twin returns: walks over the program.
-/
import Derived.Test.YtflkbjcaajchjaaTc
import Derived.Test.YtflkbjcaajchjaaWc
import Derived.Deep.Draws
namespace Go.Proofs.Ytflkbjcaajchjaa
open Go.RowKit Tf
attribute [local go_sem] run_bits run_from raw_feq raw_fne raw_flt raw_fgt

theorem run_nan_add {P : Program} (w : World) (t : TypeId) (x y : Nat) (h : Ieee.double.add x y = none) :
    (binOp .add t (.float .f64 x) (.float .f64 y)).run P w = .ok (.float .f64 (nanOf w x y)) w.drew := by
  have h' : FloatKind.f64.format.add x y = none := h
  simp [binOp, Op.floatArith, h', nanOf, Question.forced]
theorem run_nan_mul {P : Program} (w : World) (t : TypeId) (x y : Nat) (h : Ieee.double.mul x y = none) :
    (binOp .mul t (.float .f64 x) (.float .f64 y)).run P w = .ok (.float .f64 (nanOf w x y)) w.drew := by
  have h' : FloatKind.f64.format.mul x y = none := h
  simp [binOp, Op.floatArith, h', nanOf, Question.forced]

set_option maxHeartbeats 400000 in
theorem abs_any (x : Nat) (w : World) (hx : x < 18446744073709551616) :
    Calls Try.prog 38 #[.float .f64 x] w fun e w' => e = .returned (.float .f64 (mg x)) ∧ w' = w := by
  go_enter Try.func38, Try.ntmps38
  go_wp2
  go_ret
  refine ⟨ret_flt ?_, rfl⟩
  rw [andNot_sign x hx]; rfl

theorem rk_pos (m : Nat) (h : m < 9223372036854775808) : rk m = m := by
  unfold rk; rw [ng_of_lt h, if_neg (by decide), mg_of_lt h]
/-- a magnitude against a finite one -/
theorem fle_mg (m c : Nat) (h : m < 9223372036854775808) (hc : c < 9218868437227405312) : (flt m c || feq m c) = decide (m ≤ c) := by
  rw [flt_rk m c (by omega) (by omega), feq_rk m c (by omega) (by omega), rk_pos m h, rk_pos c (by omega)]
  have h2 : isN c = false := isN_false.2 (by rw [mg_of_lt (by omega)]; omega)
  rw [h2]
  by_cases n : isN m = true
  · have := isN_true.1 n
    rw [mg_of_lt h] at this
    rw [n, Bool.eq_iff_iff]; simp; omega
  · have n' : isN m = false := by simpa using n
    rw [n', Bool.eq_iff_iff]; simp; omega
theorem fge_mg (m c : Nat) (h : m < 9223372036854775808) (hc : c < 9218868437227405312) : (fgt m c || feq m c) = (!isN m && decide (c ≤ m)) := by
  rw [fgt_rk m c (by omega) (by omega), feq_rk m c (by omega) (by omega), rk_pos m h, rk_pos c (by omega)]
  have h2 : isN c = false := isN_false.2 (by rw [mg_of_lt (by omega)]; omega)
  rw [h2]
  cases isN m
  · rw [Bool.eq_iff_iff]; simp; omega
  · simp
theorem flt_mg (a b : Nat) (ha : a < 9223372036854775808) (hb : b < 9223372036854775808) (na : isN a = false) (nb : isN b = false) : flt a b = decide (a < b) := by
  rw [flt_rk a b (by omega) (by omega), rk_pos a ha, rk_pos b hb, na, nb, Bool.eq_iff_iff]; simp

set_option maxHeartbeats 400000 in
theorem tfinite_at (x : Nat) (r : Bool) (w : World) (hx : x < 18446744073709551616) (hr : fin x = r) :
    Calls Try.prog 36 #[.float .f64 x] w fun e w' => e = .returned (.bool r) ∧ w' = w := by
  have hf : (flt (mg x) 9218868437227405311 || feq (mg x) 9218868437227405311) = r := by
    rw [fle_mg _ _ (mg_lt x) (by omega), ← hr]
    unfold fin
    rw [Bool.eq_iff_iff]; simp; omega
  have A := fun w => abs_any x w hx
  go_enter Try.func36, Try.ntmps36
  go_wp2_with fail
  refine (A _).mono ?_
  rintro e w' ⟨rfl, rfl⟩
  clear A
  go_wp2
  go_ret
  exact ⟨rfl, rfl⟩

theorem canon_to (x r : Nat) (w : World) (hx : x < 18446744073709551616) (hr : canonB x = r) :
    Calls Try.prog 37 #[.float .f64 x] w fun e w' => e = .returned (.float .f64 r) ∧ w' = w := by
  subst hr; exact canon_any x w hx

set_option maxHeartbeats 1000000 in
theorem sum_nan (a b : Nat) (w : World) (h : Ieee.double.add a b = none) :
    Calls Try.prog 27 #[.float .f64 a, .float .f64 b] w fun e w' => e = .returned (.tuple #[.float .f64 quiet, .float .f64 0]) ∧ w' = w.drew := by
  have hc := fun (t : TypeId) (w : World) => run_nan_add (P := Try.prog) w t a b h
  have F : Hid (∀ w w' : World, Calls Try.prog 36 #[.float .f64 (nanOf w a b)] w' fun e w'' => e = .returned (.bool false) ∧ w'' = w') := by
    intro w w'
    refine tfinite_at _ false w' (nanOf_lt _ _ _) ?_
    have := isN_true.1 (isN_nanOf w a b)
    unfold fin; simp; omega
  have C : Hid (∀ w w' : World, Calls Try.prog 37 #[.float .f64 (nanOf w a b)] w' fun e w'' => e = .returned (.float .f64 quiet) ∧ w'' = w') := by
    intro w w'
    refine canon_to _ _ w' (nanOf_lt _ _ _) ?_
    unfold canonB; rw [isN_nanOf]; rfl
  go_enter Try.func27, Try.ntmps27
  go_wp2_with fail
  refine (F.out _ _).mono ?_
  rintro e w' ⟨rfl, rfl⟩
  go_wp2_with fail
  refine (C.out _ _).mono ?_
  rintro e w' ⟨rfl, rfl⟩
  go_wp2
  go_ret2
  exact ⟨rfl, rfl⟩

set_option maxHeartbeats 1000000 in
theorem sum_inf (a b s r : Nat) (w : World) (h : Ieee.double.add a b = some s) (hs : s < 18446744073709551616) (fs : fin s = false) (hr : canonB s = r) :
    Calls Try.prog 27 #[.float .f64 a, .float .f64 b] w fun e w' => e = .returned (.tuple #[.float .f64 r, .float .f64 0]) ∧ w' = w := by
  have hc := fun (t : TypeId) (w : World) => run_float_arith (P := Try.prog) w .add t .f64 a b s h
  have F := hid (fun w => tfinite_at s false w hs fs)
  have C := hid (fun w => canon_to s r w hs hr)
  go_enter Try.func27, Try.ntmps27
  go_wp2_with fail
  refine (F.out _).mono ?_
  rintro e w' ⟨rfl, rfl⟩
  go_wp2_with fail
  refine (C.out _).mono ?_
  rintro e w' ⟨rfl, rfl⟩
  go_wp2
  go_ret2
  exact ⟨rfl, rfl⟩

set_option maxHeartbeats 1000000 in
theorem sum_ab (a b s t d r l : Nat) (w : World) (ha : a < 18446744073709551616) (hb : b < 18446744073709551616) (h : Ieee.double.add a b = some s) (hs : s < 18446744073709551616) (fs : fin s = true) (hr : canonB s = r)
    (ho : flt (mg a) (mg b) = false) (h1 : Ieee.double.sub s a = some t) (h2 : Ieee.double.sub b t = some d) (hd : d < 18446744073709551616) (hl : canonB d = l) :
    Calls Try.prog 27 #[.float .f64 a, .float .f64 b] w fun e w' => e = .returned (.tuple #[.float .f64 r, .float .f64 l]) ∧ w' = w := by
  have hc := fun (t : TypeId) (w : World) => run_float_arith (P := Try.prog) w .add t .f64 a b s h
  have hc1 := fun (ty : TypeId) (w : World) => run_float_arith (P := Try.prog) w .sub ty .f64 s a t h1
  have hc2 := fun (ty : TypeId) (w : World) => run_float_arith (P := Try.prog) w .sub ty .f64 b t d h2
  have F := hid (fun w => tfinite_at s true w hs fs)
  have A := hid (fun w => abs_any a w ha)
  have B := hid (fun w => abs_any b w hb)
  have C := hid (fun w => canon_to s r w hs hr)
  have D := hid (fun w => canon_to d l w hd hl)
  clear ha hb hs hd hr hl fs h h1 h2
  generalize mg a = ma at *
  generalize mg b = mb at *
  go_enter Try.func27, Try.ntmps27
  go_wp2_with fail
  refine (F.out _).mono ?_
  rintro e w' ⟨rfl, rfl⟩
  go_wp2_with fail
  refine (A.out _).mono ?_
  rintro e w' ⟨rfl, rfl⟩
  go_wp2_with fail
  refine (B.out _).mono ?_
  rintro e w' ⟨rfl, rfl⟩
  go_wp2_with fail
  refine (C.out _).mono ?_
  rintro e w' ⟨rfl, rfl⟩
  go_wp2_with fail
  refine (D.out _).mono ?_
  rintro e w' ⟨rfl, rfl⟩
  go_wp2
  go_ret2
  exact ⟨rfl, rfl⟩

set_option maxHeartbeats 1000000 in
theorem sum_ba (a b s t d r l : Nat) (w : World) (ha : a < 18446744073709551616) (hb : b < 18446744073709551616) (h : Ieee.double.add a b = some s) (hs : s < 18446744073709551616) (fs : fin s = true) (hr : canonB s = r)
    (ho : flt (mg a) (mg b) = true) (h1 : Ieee.double.sub s b = some t) (h2 : Ieee.double.sub a t = some d) (hd : d < 18446744073709551616) (hl : canonB d = l) :
    Calls Try.prog 27 #[.float .f64 a, .float .f64 b] w fun e w' => e = .returned (.tuple #[.float .f64 r, .float .f64 l]) ∧ w' = w := by
  have hc := fun (t : TypeId) (w : World) => run_float_arith (P := Try.prog) w .add t .f64 a b s h
  have hc1 := fun (ty : TypeId) (w : World) => run_float_arith (P := Try.prog) w .sub ty .f64 s b t h1
  have hc2 := fun (ty : TypeId) (w : World) => run_float_arith (P := Try.prog) w .sub ty .f64 a t d h2
  have F := hid (fun w => tfinite_at s true w hs fs)
  have A := hid (fun w => abs_any a w ha)
  have B := hid (fun w => abs_any b w hb)
  have C := hid (fun w => canon_to s r w hs hr)
  have D := hid (fun w => canon_to d l w hd hl)
  clear ha hb hs hd hr hl fs h h1 h2
  generalize mg a = ma at *
  generalize mg b = mb at *
  go_enter Try.func27, Try.ntmps27
  go_wp2_with fail
  refine (F.out _).mono ?_
  rintro e w' ⟨rfl, rfl⟩
  go_wp2_with fail
  refine (A.out _).mono ?_
  rintro e w' ⟨rfl, rfl⟩
  go_wp2_with fail
  refine (B.out _).mono ?_
  rintro e w' ⟨rfl, rfl⟩
  go_wp2_with fail
  refine (C.out _).mono ?_
  rintro e w' ⟨rfl, rfl⟩
  go_wp2_with fail
  refine (D.out _).mono ?_
  rintro e w' ⟨rfl, rfl⟩
  go_wp2
  go_ret2
  exact ⟨rfl, rfl⟩

theorem addB_comm_fin (a b : Nat) (ha : a < 18446744073709551616) (hb : b < 18446744073709551616) (fa : mg a < 9218868437227405312) (fb : mg b < 9218868437227405312) : Ieee.double.add a b = Ieee.double.add b a := by
  rw [add_d a b ha hb fa fb, add_d b a hb ha fb fa, Int.add_comm, Bool.and_comm]

/-- SUM, at all floats. -/
theorem sum_at (a b r l : Nat) (w : World) (ha : a < 18446744073709551616) (hb : b < 18446744073709551616) (hr : addB a b = r) (hl : sumE a b = l) :
    Calls Try.prog 27 #[.float .f64 a, .float .f64 b] w fun e w' => e = .returned (.tuple #[.float .f64 r, .float .f64 l]) ∧ ∃ n, w' = w.drewN n := by
  rcases add_cases a b ha hb with ⟨fa, fb⟩ | h | ⟨s, h⟩
  · have h := add_d a b ha hb fa fb
    obtain ⟨s, hs⟩ : ∃ s, rn (ng a && ng b) (sv a + sv b) = s := ⟨_, rfl⟩
    have hsl : s < 18446744073709551616 := by rw [← hs]; exact rn_lt _ _
    rw [hs] at h
    have hc : canonB s = r := by rw [← hr, addB_some h]
    have hm : mg r = mg s := by
      rw [← hc]; unfold canonB
      have n : isN s = false := by rw [← hs]; exact isN_rn _ _
      rw [n, if_neg (by decide)]
      by_cases c : mg s = 0
      · rw [if_pos c, c]; rfl
      · rw [if_neg c]
    by_cases f : mg s < 9218868437227405312
    · have hfin : fin s = true := by unfold fin; simpa using f
      have hf : mg (addB a b) < 9218868437227405312 := by rw [hr, hm]; exact f
      have na : isN (mg a) = false := isN_false.2 (by rw [mg_of_lt (mg_lt a)]; omega)
      have nb : isN (mg b) = false := isN_false.2 (by rw [mg_of_lt (mg_lt b)]; omega)
      have hflt := flt_mg (mg a) (mg b) (mg_lt a) (mg_lt b) na nb
      by_cases c : mg a < mg b
      · have hf' : mg (addB b a) < 9218868437227405312 := by unfold addB; rw [addB_comm_fin b a hb ha fb fa]; exact hf
        have h' : Ieee.double.add b a = some s := by rw [addB_comm_fin b a hb ha fb fa]; exact h
        obtain ⟨t, d, h1, h2, _, hd, e⟩ := sum_way b a hb ha hf' (by omega) s h'
        have he : sumE b a = sumE a b := by unfold sumE addB; rw [addB_comm_fin b a hb ha fb fa, Int.add_comm (sv b)]
        exact (sum_ba a b s t d r l w ha hb h hsl hfin hc (by rw [hflt]; exact decide_eq_true c) h1 h2 hd (by rw [e, he, hl])).mono fun e w' ⟨x, y⟩ => ⟨x, 0, y⟩
      · obtain ⟨t, d, h1, h2, _, hd, e⟩ := sum_way a b ha hb hf (by omega) s h
        exact (sum_ab a b s t d r l w ha hb h hsl hfin hc (by rw [hflt]; exact decide_eq_false c) h1 h2 hd (by rw [e, hl])).mono fun e w' ⟨x, y⟩ => ⟨x, 0, y⟩
    · have hfin : fin s = false := by unfold fin; simpa using f
      have : l = 0 := by rw [← hl]; unfold sumE; rw [hr, hm, if_neg f]
      subst this
      exact (sum_inf a b s r w h hsl hfin hc).mono fun e w' ⟨x, y⟩ => ⟨x, 0, y⟩
  · have e1 : r = quiet := by rw [← hr, addB_none h]
    have e2 : l = 0 := by
      rw [← hl]; unfold sumE; rw [addB_none h, quiet_mg, if_neg (by omega)]
    subst e2
    rw [e1]
    exact (sum_nan a b w h).mono fun e w' ⟨x, y⟩ => ⟨x, 1, y⟩
  · have e1 : r = infW s := by rw [← hr, addB_some h, infW_canon]
    have e2 : l = 0 := by
      rw [← hl]; unfold sumE; rw [addB_some h, infW_canon, infW_mg, if_neg (by omega)]
    subst e2
    rw [e1]
    exact (sum_inf a b _ _ w h (infW_lt s) (by unfold fin; rw [infW_mg]; rfl) (infW_canon s)).mono fun e w' ⟨x, y⟩ => ⟨x, 0, y⟩
end Go.Proofs.Ytflkbjcaajchjaa
