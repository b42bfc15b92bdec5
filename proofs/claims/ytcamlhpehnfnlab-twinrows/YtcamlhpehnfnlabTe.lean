/-
  What Split, Product and Add of package twin return: walks over the program.
-/
import Derived.Test.YtcamlhpehnfnlabTd
namespace Go.Proofs.Ytcamlhpehnfnlab
open Go.RowKit Tf
attribute [local go_sem] run_bits run_from raw_feq raw_fne raw_flt raw_fgt

set_option maxHeartbeats 400000 in
theorem splits_at (x : Nat) (r : Bool) (w : World) (hx : x < 18446744073709551616) (hr : decide (mg x ≤ 9092767647661031424) = r) :
    Calls Try.prog 23 #[.float .f64 x] w fun e w' => e = .returned (.bool r) ∧ w' = w := by
  have hf : (flt (mg x) 9092767647661031424 || feq (mg x) 9092767647661031424) = r := by
    rw [fle_mg _ _ (mg_lt x) (by omega), ← hr]
  have A := hid (fun w => abs_any x w hx)
  clear hr hx
  generalize mg x = m at *
  go_enter Try.func23, Try.ntmps23
  go_wp2_with fail
  refine (A.out _).mono ?_
  rintro e w' ⟨rfl, rfl⟩
  go_wp2
  go_ret
  exact ⟨rfl, rfl⟩

set_option maxHeartbeats 400000 in
theorem told_go (a b p m : Nat) (u v x y : Bool) (w : World)
    (A : Hid (∀ w, Calls Try.prog 16 #[.float .f64 p] w fun e w' => e = .returned (.float .f64 m) ∧ w' = w))
    (U : Hid (∀ w, Calls Try.prog 23 #[.float .f64 a] w fun e w' => e = .returned (.bool u) ∧ w' = w))
    (V : Hid (∀ w, Calls Try.prog 23 #[.float .f64 b] w fun e w' => e = .returned (.bool v) ∧ w' = w))
    (hx : (fgt m 243194379878006784 || feq m 243194379878006784) = x) (hy : (flt m 9200854038717923328 || feq m 9200854038717923328) = y) :
    Calls Try.prog 17 #[.float .f64 a, .float .f64 b, .float .f64 p] w fun e w' => e = .returned (.bool (u && v && x && y)) ∧ w' = w := by
  cases u
  · go_enter Try.func17, Try.ntmps17
    go_wp2_with fail
    refine (A.out _).mono ?_
    rintro e w' ⟨rfl, rfl⟩
    go_wp2_with fail
    refine (U.out _).mono ?_
    rintro e w' ⟨rfl, rfl⟩
    go_wp2
    go_ret
    exact ⟨rfl, rfl⟩
  · cases v
    · go_enter Try.func17, Try.ntmps17
      go_wp2_with fail
      refine (A.out _).mono ?_
      rintro e w' ⟨rfl, rfl⟩
      go_wp2_with fail
      refine (U.out _).mono ?_
      rintro e w' ⟨rfl, rfl⟩
      go_wp2_with fail
      refine (V.out _).mono ?_
      rintro e w' ⟨rfl, rfl⟩
      go_wp2
      go_ret
      exact ⟨rfl, rfl⟩
    · cases x
      · go_enter Try.func17, Try.ntmps17
        go_wp2_with fail
        refine (A.out _).mono ?_
        rintro e w' ⟨rfl, rfl⟩
        go_wp2_with fail
        refine (U.out _).mono ?_
        rintro e w' ⟨rfl, rfl⟩
        go_wp2_with fail
        refine (V.out _).mono ?_
        rintro e w' ⟨rfl, rfl⟩
        go_wp2
        go_ret
        exact ⟨rfl, rfl⟩
      · go_enter Try.func17, Try.ntmps17
        go_wp2_with fail
        refine (A.out _).mono ?_
        rintro e w' ⟨rfl, rfl⟩
        go_wp2_with fail
        refine (U.out _).mono ?_
        rintro e w' ⟨rfl, rfl⟩
        go_wp2_with fail
        refine (V.out _).mono ?_
        rintro e w' ⟨rfl, rfl⟩
        go_wp2
        go_ret
        exact ⟨rfl, rfl⟩
theorem told_at (a b p : Nat) (r : Bool) (w : World) (ha : a < 18446744073709551616) (hb : b < 18446744073709551616) (hp : p < 18446744073709551616) (hr : toldB a b p = r) :
    Calls Try.prog 17 #[.float .f64 a, .float .f64 b, .float .f64 p] w fun e w' => e = .returned (.bool r) ∧ w' = w := by
  have h := told_go a b p (mg p) _ _ _ _ w (fun w => abs_any p w hp) (fun w => splits_at a _ w ha rfl) (fun w => splits_at b _ w hb rfl) rfl rfl
  have e : (decide (mg a ≤ 9092767647661031424) && decide (mg b ≤ 9092767647661031424) && (fgt (mg p) 243194379878006784 || feq (mg p) 243194379878006784) && (flt (mg p) 9200854038717923328 || feq (mg p) 9200854038717923328)) = r := by
    rw [fle_mg _ _ (mg_lt p) (by omega), fge_mg _ _ (mg_lt p) (by omega), ← hr]
    unfold toldB
    by_cases n : isN (mg p) = true
    · have h1 := isN_true.1 n
      rw [mg_of_lt (mg_lt p)] at h1
      have h2 : decide (mg p ≤ 9200854038717923328) = false := decide_eq_false (by omega)
      rw [h2]; simp
    · have n' : isN (mg p) = false := by simpa using n
      rw [n']; simp
  rwa [e] at h

set_option maxHeartbeats 1000000 in
theorem split_no (x r : Nat) (w : World) (hx : x < 18446744073709551616) (h : decide (mg x ≤ 9092767647661031424) = false) (hr : canonB x = r) :
    Calls Try.prog 14 #[.float .f64 x] w fun e w' => e = .returned (.tuple #[.float .f64 r, .float .f64 0]) ∧ w' = w := by
  have A := hid (fun w => splits_at x false w hx h)
  have C := hid (fun w => canon_to x r w hx hr)
  clear h hr hx
  go_enter Try.func14, Try.ntmps14
  go_wp2_with fail
  refine (A.out _).mono ?_
  rintro e w' ⟨rfl, rfl⟩
  go_wp2_with fail
  refine (C.out _).mono ?_
  rintro e w' ⟨rfl, rfl⟩
  go_wp2
  go_ret2
  exact ⟨rfl, rfl⟩

set_option maxHeartbeats 1000000 in
theorem split_yes (x c d h l r q : Nat) (w : World) (hx : x < 18446744073709551616) (hm : decide (mg x ≤ 9092767647661031424) = true)
    (h1 : Ieee.double.mul 4728779608772575232 x = some c) (h2 : Ieee.double.sub c x = some d) (h3 : Ieee.double.sub c d = some h) (h4 : Ieee.double.sub x h = some l) (hh : h < 18446744073709551616) (hl : l < 18446744073709551616) (hr : canonB h = r) (hq : canonB l = q) :
    Calls Try.prog 14 #[.float .f64 x] w fun e w' => e = .returned (.tuple #[.float .f64 r, .float .f64 q]) ∧ w' = w := by
  have A := hid (fun w => splits_at x true w hx hm)
  have c1 := fun (t : TypeId) (w : World) => run_float_arith (P := Try.prog) w .mul t .f64 4728779608772575232 x c h1
  have c2 := fun (t : TypeId) (w : World) => run_float_arith (P := Try.prog) w .sub t .f64 c x d h2
  have c3 := fun (t : TypeId) (w : World) => run_float_arith (P := Try.prog) w .sub t .f64 c d h h3
  have c4 := fun (t : TypeId) (w : World) => run_float_arith (P := Try.prog) w .sub t .f64 x h l h4
  have C := hid (fun w => canon_to h r w hh hr)
  have D := hid (fun w => canon_to l q w hl hq)
  clear hx hm hh hl hr hq h1 h2 h3 h4
  go_enter Try.func14, Try.ntmps14
  go_wp2_with fail
  refine (A.out _).mono ?_
  rintro e w' ⟨rfl, rfl⟩
  go_wp2_with fail
  refine (C.out _).mono ?_
  rintro e w' ⟨rfl, rfl⟩
  go_wp2_with fail
  refine (D.out _).mono ?_
  rintro e w' ⟨rfl, rfl⟩
  go_wp2
  go_ret2
  exact ⟨rfl, rfl⟩

/-- SPLIT, at all floats. -/
theorem split_at (x r q : Nat) (w : World) (hx : x < 18446744073709551616) (hr : splitH x = r) (hq : splitL x = q) :
    Calls Try.prog 14 #[.float .f64 x] w fun e w' => e = .returned (.tuple #[.float .f64 r, .float .f64 q]) ∧ w' = w := by
  unfold splitH at hr
  unfold splitL at hq
  by_cases c : mg x ≤ 9092767647661031424
  · rw [if_pos c] at hr hq
    obtain ⟨_, _, _, _, h1, h2, h3, h4, _, _, h7, h8, e1, e2⟩ := split_way x hx c
    exact split_yes x _ _ _ _ r q w hx (decide_eq_true c) h1 h2 h3 h4 h7 h8 (by rw [e1, hr]) (by rw [e2, hq])
  · rw [if_neg c] at hr hq
    subst hq
    exact split_no x r w hx (decide_eq_false c) hr

set_option maxHeartbeats 1000000 in
theorem prod_nan (a b : Nat) (w : World) (ha : a < 18446744073709551616) (hb : b < 18446744073709551616) (h : Ieee.double.mul a b = none) :
    Calls Try.prog 7 #[.float .f64 a, .float .f64 b] w fun e w' => e = .returned (.tuple #[.float .f64 quiet, .float .f64 0]) ∧ w' = w.drew := by
  have hc := fun (t : TypeId) (w : World) => run_nan_mul (P := Try.prog) w t a b h
  have F : Hid (∀ w w' : World, Calls Try.prog 17 #[.float .f64 a, .float .f64 b, .float .f64 (nanOf w a b)] w' fun e w'' => e = .returned (.bool false) ∧ w'' = w') := by
    intro w w'
    refine told_at a b _ false w' ha hb (nanOf_lt _ _ _) ?_
    have := isN_true.1 (isN_nanOf w a b)
    have h2 : decide (mg (nanOf w a b) ≤ 9200854038717923328) = false := decide_eq_false (by omega)
    unfold toldB; rw [h2]; simp
  have C : Hid (∀ w w' : World, Calls Try.prog 9 #[.float .f64 (nanOf w a b)] w' fun e w'' => e = .returned (.float .f64 quiet) ∧ w'' = w') := by
    intro w w'
    refine canon_to _ _ w' (nanOf_lt _ _ _) ?_
    unfold canonB; rw [isN_nanOf]; rfl
  clear ha hb h
  go_enter Try.func7, Try.ntmps7
  go_wp2_with fail
  refine (F.out _ _).mono ?_
  rintro e w' ⟨rfl, rfl⟩
  go_wp2_with fail
  refine (C.out _ _).mono ?_
  rintro e w' ⟨rfl, rfl⟩
  go_wp2
  go_ret2
  exact ⟨rfl, rfl⟩

set_option maxHeartbeats 1000000 in
theorem prod_no (a b p r : Nat) (w : World) (ha : a < 18446744073709551616) (hb : b < 18446744073709551616) (h : Ieee.double.mul a b = some p) (hp : p < 18446744073709551616) (ht : toldB a b p = false) (hr : canonB p = r) :
    Calls Try.prog 7 #[.float .f64 a, .float .f64 b] w fun e w' => e = .returned (.tuple #[.float .f64 r, .float .f64 0]) ∧ w' = w := by
  have hc := fun (t : TypeId) (w : World) => run_float_arith (P := Try.prog) w .mul t .f64 a b p h
  have F := hid (fun w => told_at a b p false w ha hb hp ht)
  have C := hid (fun w => canon_to p r w hp hr)
  clear ha hb hp ht hr h
  go_enter Try.func7, Try.ntmps7
  go_wp2_with fail
  refine (F.out _).mono ?_
  rintro e w' ⟨rfl, rfl⟩
  go_wp2_with fail
  refine (C.out _).mono ?_
  rintro e w' ⟨rfl, rfl⟩
  go_wp2
  go_ret2
  exact ⟨rfl, rfl⟩

set_option maxHeartbeats 2000000 in
theorem prod_yes (a b p r ah al bh bl p1 l1 p2 l2 p3 l3 p4 d q : Nat) (w : World) (ha : a < 18446744073709551616) (hb : b < 18446744073709551616) (h : Ieee.double.mul a b = some p) (hp : p < 18446744073709551616) (ht : toldB a b p = true) (hr : canonB p = r)
    (e1 : splitH a = ah) (e2 : splitL a = al) (e3 : splitH b = bh) (e4 : splitL b = bl)
    (m1 : Ieee.double.mul ah bh = some p1) (s1 : Ieee.double.sub p p1 = some l1) (m2 : Ieee.double.mul al bh = some p2) (s2 : Ieee.double.sub l1 p2 = some l2)
    (m3 : Ieee.double.mul ah bl = some p3) (s3 : Ieee.double.sub l2 p3 = some l3) (m4 : Ieee.double.mul al bl = some p4) (s4 : Ieee.double.sub p4 l3 = some d) (hd : d < 18446744073709551616) (hq : canonB d = q) :
    Calls Try.prog 7 #[.float .f64 a, .float .f64 b] w fun e w' => e = .returned (.tuple #[.float .f64 r, .float .f64 q]) ∧ w' = w := by
  have c0 := fun (t : TypeId) (w : World) => run_float_arith (P := Try.prog) w .mul t .f64 a b p h
  have c1 := fun (t : TypeId) (w : World) => run_float_arith (P := Try.prog) w .mul t .f64 ah bh p1 m1
  have c2 := fun (t : TypeId) (w : World) => run_float_arith (P := Try.prog) w .sub t .f64 p p1 l1 s1
  have c3 := fun (t : TypeId) (w : World) => run_float_arith (P := Try.prog) w .mul t .f64 al bh p2 m2
  have c4 := fun (t : TypeId) (w : World) => run_float_arith (P := Try.prog) w .sub t .f64 l1 p2 l2 s2
  have c5 := fun (t : TypeId) (w : World) => run_float_arith (P := Try.prog) w .mul t .f64 ah bl p3 m3
  have c6 := fun (t : TypeId) (w : World) => run_float_arith (P := Try.prog) w .sub t .f64 l2 p3 l3 s3
  have c7 := fun (t : TypeId) (w : World) => run_float_arith (P := Try.prog) w .mul t .f64 al bl p4 m4
  have c8 := fun (t : TypeId) (w : World) => run_float_arith (P := Try.prog) w .sub t .f64 p4 l3 d s4
  have F := hid (fun w => told_at a b p true w ha hb hp ht)
  have SA := hid (fun w => split_at a ah al w ha e1 e2)
  have SB := hid (fun w => split_at b bh bl w hb e3 e4)
  have C := hid (fun w => canon_to p r w hp hr)
  have D := hid (fun w => canon_to d q w hd hq)
  clear ha hb hp ht hr h hd hq e1 e2 e3 e4 m1 m2 m3 m4 s1 s2 s3 s4
  go_enter Try.func7, Try.ntmps7
  go_wp2_with fail
  refine (F.out _).mono ?_
  rintro e w' ⟨rfl, rfl⟩
  go_wp2_with fail
  refine (SA.out _).mono ?_
  rintro e w' ⟨rfl, rfl⟩
  go_wp2_with fail
  refine (SB.out _).mono ?_
  rintro e w' ⟨rfl, rfl⟩
  go_wp2_with fail
  refine (C.out _).mono ?_
  rintro e w' ⟨rfl, rfl⟩
  go_wp2_with fail
  refine (D.out _).mono ?_
  rintro e w' ⟨rfl, rfl⟩
  go_wp2
  go_ret2
  exact ⟨rfl, rfl⟩

theorem mul_ok (a b p : Nat) (ha : a < 18446744073709551616) (hb : b < 18446744073709551616) (h : Ieee.double.mul a b = some p) : p < 18446744073709551616 ∧ isN p = false := by
  rcases mul_cases a b ha hb with ⟨fa, fb⟩ | h' | ⟨s, h'⟩
  · have hm := mul_d a b ha hb fa fb
    rw [h] at hm
    have hm := Option.some.inj hm
    have hl : min (rung 52 1074 (mv (mg a) * mv (mg b))) 9218868437227405312 ≤ 9218868437227405312 := Nat.min_le_right _ _
    generalize min (rung 52 1074 (mv (mg a) * mv (mg b))) 9218868437227405312 = q at *
    rw [hm, isN_false]
    cases (ng a ^^ ng b)
    · simp only [Bool.false_eq_true, if_false]; exact ⟨by omega, by rw [mg_of_lt (by omega)]; exact hl⟩
    · simp only [if_true]; exact ⟨by omega, by rw [mg_of_ge (by omega) (by omega)]; omega⟩
  · rw [h] at h'; cases h'
  · rw [h] at h'
    obtain rfl := Option.some.inj h'
    exact ⟨infW_lt s, isN_false.2 (by rw [infW_mg]; omega)⟩
theorem mg_canon (s : Nat) (n : isN s = false) : mg (canonB s) = mg s := by
  unfold canonB
  rw [n, if_neg (by decide)]
  by_cases c : mg s = 0
  · rw [if_pos c, c]; rfl
  · rw [if_neg c]

/-- PRODUCT, at all floats. -/
theorem prod_at (a b r q : Nat) (w : World) (ha : a < 18446744073709551616) (hb : b < 18446744073709551616) (hr : mulB a b = r) (hq : prodE a b = q) :
    Calls Try.prog 7 #[.float .f64 a, .float .f64 b] w fun e w' => e = .returned (.tuple #[.float .f64 r, .float .f64 q]) ∧ ∃ n, w' = w.drewN n := by
  cases h : Ieee.double.mul a b with
  | none =>
    have e1 : r = quiet := by rw [← hr, mulB_none h]
    have e2 : q = 0 := by
      rw [← hq]; unfold prodE; rw [mulB_none h]
      have h2 : toldB a b quiet = false := by
        have h3 : decide (mg quiet ≤ 9200854038717923328) = false := by rw [quiet_mg]; rfl
        unfold toldB; rw [h3]; simp
      rw [h2, if_neg (by decide)]
    subst e2
    rw [e1]
    exact (prod_nan a b w ha hb h).mono fun e w' ⟨x, y⟩ => ⟨x, 1, y⟩
  | some p =>
    obtain ⟨hp, np⟩ := mul_ok a b p ha hb h
    have hc : canonB p = r := by rw [← hr, mulB_some h]
    have ht : toldB a b (mulB a b) = toldB a b p := by unfold toldB; rw [hr, ← hc, mg_canon p np]
    cases t : toldB a b p
    · have e2 : q = 0 := by rw [← hq]; unfold prodE; rw [ht, t, if_neg (by decide)]
      subst e2
      exact (prod_no a b p r w ha hb h hp t hc).mono fun e w' ⟨x, y⟩ => ⟨x, 0, y⟩
    · obtain ⟨_, _, _, _, _, _, _, d, m1, s1, m2, s2, m3, s3, m4, s4, hd, ed⟩ := prod_way a b p ha hb h t
      exact (prod_yes a b p r _ _ _ _ _ _ _ _ _ _ _ d q w ha hb h hp t hc rfl rfl rfl rfl m1 s1 m2 s2 m3 s3 m4 s4 hd (by rw [ed, hq])).mono fun e w' ⟨x, y⟩ => ⟨x, 0, y⟩
end Go.Proofs.Ytcamlhpehnfnlab
