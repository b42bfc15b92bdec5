/-
  Some of the texts of this proof, one behind the other.
-/
import Derived.Deep.RegionWith
import Derived.BigQuiet
import Derived.Deep.QuietTactic
import Derived.Deep.Quiet
import Derived.Deep.MidRow
import Derived.Deep.Cut
import Derived.Deep.CutRange
import Derived.Test.YtbibhgikmnpbfaaGreatDoorRb04
namespace Go.Proofs.YtbibhgikmnpbfaaGreatDoor
open Go.RowKit Tf
attribute [local go_sem] run_bits run_from raw_feq raw_fne raw_flt raw_fgt run_neg

set_option maxHeartbeats 1000000 in
set_option maxRecDepth 100000 in
theorem refOrder_any (a b : Nat) (w : World) (ha : a < 18446744073709551616) (hb : b < 18446744073709551616) :
    Calls Tryz.prog 80 #[.float .f64 a, .float .f64 b] w fun e w' => e = .returned (.int .i64 (orderB a b)) ∧ w' = w := by
  obtain ⟨o, ho⟩ : ∃ o, orderB a b = o := ⟨_, rfl⟩
  rw [ho]
  by_cases c : a = b
  · have h : o = 0 := by rw [← ho, c]; unfold orderB; rw [if_neg (by omega), if_neg (by omega)]
    have e : ((a : Int) == (b : Int)) = true := by simp; omega
    rw [h]
    clear h ho
    subst c
    go_enter Tryz.func80, Tryz.ntmps80
    go_wp2_with fail
    refine (rawBits_any _ _).mono ?_
    rintro e w' ⟨rfl, rfl⟩
    go_wp2_with fail
    refine (rawBits_any _ _).mono ?_
    rintro e w' ⟨rfl, rfl⟩
    go_wp2
    go_ret
    exact ⟨rfl, rfl⟩
  · have e : ((a : Int) == (b : Int)) = false := by simp; omega
    cases hna : ng a
    · have la := lt_of_ng hna
      cases hnb : ng b
      · have lb := lt_of_ng hnb
        by_cases c2 : a < b
        · have h : o = -1 := by rw [← ho]; unfold orderB placeB; rw [hna, hnb]; simp only [Bool.false_eq_true, if_false]; rw [if_pos (by omega)]
          rw [h]
          clear h ho
          go_enter Tryz.func80, Tryz.ntmps80
          go_wp2_with fail
          refine (rawBits_any a _).mono ?_
          rintro e w' ⟨rfl, rfl⟩
          go_wp2_with fail
          refine (rawBits_any b _).mono ?_
          rintro e w' ⟨rfl, rfl⟩
          go_wp2_with fail
          refine (refBelow_any a _).mono ?_
          rintro e w' ⟨rfl, rfl⟩
          go_wp2_with fail
          refine (refBelow_any a _).mono ?_
          rintro e w' ⟨rfl, rfl⟩
          go_wp2_with fail
          refine (refBelow_any b _).mono ?_
          rintro e w' ⟨rfl, rfl⟩
          go_wp2
          go_ret
          exact ⟨rfl, rfl⟩
        · have h : o = 1 := by rw [← ho]; unfold orderB placeB; rw [hna, hnb]; simp only [Bool.false_eq_true, if_false]; rw [if_neg (by omega), if_pos (by omega)]
          rw [h]
          clear h ho
          go_enter Tryz.func80, Tryz.ntmps80
          go_wp2_with fail
          refine (rawBits_any a _).mono ?_
          rintro e w' ⟨rfl, rfl⟩
          go_wp2_with fail
          refine (rawBits_any b _).mono ?_
          rintro e w' ⟨rfl, rfl⟩
          go_wp2_with fail
          refine (refBelow_any a _).mono ?_
          rintro e w' ⟨rfl, rfl⟩
          go_wp2_with fail
          refine (refBelow_any a _).mono ?_
          rintro e w' ⟨rfl, rfl⟩
          go_wp2_with fail
          refine (refBelow_any b _).mono ?_
          rintro e w' ⟨rfl, rfl⟩
          go_wp2
          go_ret
          exact ⟨rfl, rfl⟩
      · have lb := ge_of_ng hnb
        have h : o = 1 := by rw [← ho]; unfold orderB placeB; rw [hna, hnb]; simp only [Bool.false_eq_true, if_false, if_true]; rw [if_neg (by omega), if_pos (by omega)]
        rw [h]
        clear h ho
        go_enter Tryz.func80, Tryz.ntmps80
        go_wp2_with fail
        refine (rawBits_any a _).mono ?_
        rintro e w' ⟨rfl, rfl⟩
        go_wp2_with fail
        refine (rawBits_any b _).mono ?_
        rintro e w' ⟨rfl, rfl⟩
        go_wp2_with fail
        refine (refBelow_any a _).mono ?_
        rintro e w' ⟨rfl, rfl⟩
        go_wp2_with fail
        refine (refBelow_any a _).mono ?_
        rintro e w' ⟨rfl, rfl⟩
        go_wp2_with fail
        refine (refBelow_any b _).mono ?_
        rintro e w' ⟨rfl, rfl⟩
        go_wp2
        go_ret
        exact ⟨rfl, rfl⟩
    · have la := ge_of_ng hna
      cases hnb : ng b
      · have lb := lt_of_ng hnb
        have h : o = -1 := by rw [← ho]; unfold orderB placeB; rw [hna, hnb]; simp only [Bool.false_eq_true, if_false, if_true]; rw [if_pos (by omega)]
        rw [h]
        clear h ho
        go_enter Tryz.func80, Tryz.ntmps80
        go_wp2_with fail
        refine (rawBits_any a _).mono ?_
        rintro e w' ⟨rfl, rfl⟩
        go_wp2_with fail
        refine (rawBits_any b _).mono ?_
        rintro e w' ⟨rfl, rfl⟩
        go_wp2_with fail
        refine (refBelow_any a _).mono ?_
        rintro e w' ⟨rfl, rfl⟩
        go_wp2_with fail
        refine (refBelow_any b _).mono ?_
        rintro e w' ⟨rfl, rfl⟩
        go_wp2_with fail
        refine (refBelow_any a _).mono ?_
        rintro e w' ⟨rfl, rfl⟩
        go_wp2
        go_ret
        exact ⟨rfl, rfl⟩
      · have lb := ge_of_ng hnb
        by_cases c2 : b < a
        · have h : o = -1 := by rw [← ho]; unfold orderB placeB; rw [hna, hnb]; simp only [if_true]; rw [if_pos (by omega)]
          rw [h]
          clear h ho
          go_enter Tryz.func80, Tryz.ntmps80
          go_wp2_with fail
          refine (rawBits_any a _).mono ?_
          rintro e w' ⟨rfl, rfl⟩
          go_wp2_with fail
          refine (rawBits_any b _).mono ?_
          rintro e w' ⟨rfl, rfl⟩
          go_wp2_with fail
          refine (refBelow_any a _).mono ?_
          rintro e w' ⟨rfl, rfl⟩
          go_wp2_with fail
          refine (refBelow_any b _).mono ?_
          rintro e w' ⟨rfl, rfl⟩
          go_wp2
          go_ret
          exact ⟨rfl, rfl⟩
        · have h : o = 1 := by rw [← ho]; unfold orderB placeB; rw [hna, hnb]; simp only [if_true]; rw [if_neg (by omega), if_pos (by omega)]
          rw [h]
          clear h ho
          go_enter Tryz.func80, Tryz.ntmps80
          go_wp2_with fail
          refine (rawBits_any a _).mono ?_
          rintro e w' ⟨rfl, rfl⟩
          go_wp2_with fail
          refine (rawBits_any b _).mono ?_
          rintro e w' ⟨rfl, rfl⟩
          go_wp2_with fail
          refine (refBelow_any a _).mono ?_
          rintro e w' ⟨rfl, rfl⟩
          go_wp2_with fail
          refine (refBelow_any b _).mono ?_
          rintro e w' ⟨rfl, rfl⟩
          go_wp2
          go_ret
          exact ⟨rfl, rfl⟩

theorem refOrd_at (a b : Nat) (r : Int) (w : World) (ha : a < 18446744073709551616) (hb : b < 18446744073709551616) (hr : Hid (orderB a b = r)) :
    Calls Tryz.prog 80 #[.float .f64 a, .float .f64 b] w fun e w' => e = .returned (.int .i64 r) ∧ w' = w := by
  rw [← hr.out]; exact refOrder_any a b w ha hb
set_option maxHeartbeats 1000000 in
theorem quieted_at (x q : Nat) (w : World) (h : IsQ x q) :
    Calls Tryz.prog 169 #[.float .f64 x] w fun e w' => e = .returned (.float .f64 q) ∧ w' = w := by
  obtain ⟨h1, h2⟩ := h
  have C := hid (fun w => refNone_any x w)
  have D := hid refQuiet_any
  cases hN : isN x
  · rw [hN] at C
    rw [qB_of hN] at h2
    subst h2
    clear hN h1
    go_enter Tryz.func169, Tryz.ntmps169
    go_wp2_with fail
    refine (C.out _).mono ?_
    rintro e w' ⟨rfl, rfl⟩
    go_wp2
    go_ret
    exact ⟨rfl, rfl⟩
  · rw [hN] at C
    rw [qB_N hN] at h2
    subst h2
    clear hN h1
    go_enter Tryz.func169, Tryz.ntmps169
    go_wp2_with fail
    refine (C.out _).mono ?_
    rintro e w' ⟨rfl, rfl⟩
    go_wp2_with fail
    refine (D.out _).mono ?_
    rintro e w' ⟨rfl, rfl⟩
    go_wp2
    go_ret
    exact ⟨rfl, rfl⟩
set_option maxHeartbeats 1000000 in
theorem ahead_at (a b : Nat) (r : Bool) (w : World) (ha : a < 18446744073709551616) (hb : b < 18446744073709551616) (hr : decide (key a < key b) = r) :
    Calls Tryz.prog 168 #[.float .f64 a, .float .f64 b] w fun e w' => e = .returned (.bool r) ∧ w' = w := by
  have O2 := hid (fun w => refOrd_at a b _ w ha hb rfl)
  have hk := key_lt b a hb ha
  obtain ⟨m, hm⟩ : ∃ m, mg a = m := ⟨_, rfl⟩
  obtain ⟨n, hn⟩ : ∃ n, mg b = n := ⟨_, rfl⟩
  have A := hid (fun w => refMag_at a m w hm)
  have B := hid (fun w => refMag_at b n w hn)
  rw [hm, hn] at hk
  clear hm hn
  by_cases c1 : m < n
  · have e : r = true := by rw [← hr]; exact decide_eq_true (hk.2 (.inl c1))
    subst e
    have c1' : (m : Int) < n := by omega
    clear hk hr c1 ha hb O2
    go_enter Tryz.func168, Tryz.ntmps168
    go_wp2_with fail
    refine (A.out _).mono ?_
    rintro e w' ⟨rfl, rfl⟩
    go_wp2_with fail
    refine (B.out _).mono ?_
    rintro e w' ⟨rfl, rfl⟩
    go_wp2
    go_ret
    exact ⟨rfl, rfl⟩
  by_cases c2 : n < m
  · have e : r = false := by rw [← hr]; exact decide_eq_false (fun x => by have := hk.1 x; omega)
    subst e
    have c1' : (n : Int) < m := by omega
    have c3 : decide ((m : Int) < n) = false := decide_eq_false (by omega)
    have c4 : ((m : Int) == n) = false := by rw [beq_eq_false_iff_ne]; omega
    have c5 : decide (m < n) = false := decide_eq_false (by omega)
    clear hk hr c1 c2 ha hb O2
    go_enter Tryz.func168, Tryz.ntmps168
    go_wp2_with fail
    refine (A.out _).mono ?_
    rintro e w' ⟨rfl, rfl⟩
    go_wp2_with fail
    refine (B.out _).mono ?_
    rintro e w' ⟨rfl, rfl⟩
    go_wp2
    go_ret
    exact ⟨rfl, rfl⟩
  · obtain ⟨o, ho2⟩ : ∃ o, orderB a b = o := ⟨_, rfl⟩
    have e : decide (o < 0) = r := by
      rw [← hr, ← ho2]
      refine decide_eq_decide.2 ?_
      rw [orderB_lt, hk]
      constructor
      · intro h; exact .inr ⟨by omega, h⟩
      · rintro (h | h)
        · omega
        · exact h.2
    rw [ho2] at O2
    obtain rfl : m = n := by omega
    have c3 : decide ((m : Int) < m) = false := decide_eq_false (by omega)
    clear hk hr c1 c2 ha hb ho2
    go_enter Tryz.func168, Tryz.ntmps168
    go_wp2_with fail
    refine (A.out _).mono ?_
    rintro e w' ⟨rfl, rfl⟩
    go_wp2_with fail
    refine (B.out _).mono ?_
    rintro e w' ⟨rfl, rfl⟩
    go_wp2_with fail
    refine (O2.out _).mono ?_
    rintro e w' ⟨rfl, rfl⟩
    go_wp2
    go_ret
    exact ⟨by first | rfl | (rw [← e]; try rfl) | skip, rfl⟩
set_option maxHeartbeats 1000000 in
theorem rthree_000 (a b c q r s k m : Nat) (w : World)
    (A1 : Hid (∀ w, Calls Tryz.prog 168 #[.float .f64 b, .float .f64 a] w fun e w' => e = .returned (.bool false) ∧ w' = w))
    (A2 : Hid (∀ w, Calls Tryz.prog 168 #[.float .f64 c, .float .f64 b] w fun e w' => e = .returned (.bool false) ∧ w' = w))
    (A3 : Hid (∀ w, Calls Tryz.prog 168 #[.float .f64 b, .float .f64 a] w fun e w' => e = .returned (.bool false) ∧ w' = w))
    (h1 : ∀ t, (binOp .add t (.float .f64 a) (.float .f64 b)).run Tryz.prog w = .ok (.float .f64 r) (w.drewN k))
    (h2 : ∀ t, (binOp .add t (.float .f64 r) (.float .f64 c)).run Tryz.prog (w.drewN k) = .ok (.float .f64 s) ((w.drewN k).drewN m))
    (Q : Hid (∀ w, Calls Tryz.prog 169 #[.float .f64 s] w fun e w' => e = .returned (.float .f64 q) ∧ w' = w)) :
    Calls Tryz.prog 146 #[.float .f64 a, .float .f64 b, .float .f64 c] w fun e w' => e = .returned (.float .f64 q) ∧ ∃ k, w' = w.drewN k := by
  go_enter Tryz.func146, Tryz.ntmps146
  go_wp2_with fail
  refine (A1.out _).mono ?_
  rintro e w' ⟨rfl, rfl⟩
  go_wp2_with fail
  refine (A2.out _).mono ?_
  rintro e w' ⟨rfl, rfl⟩
  go_wp2_with fail
  refine (A3.out _).mono ?_
  rintro e w' ⟨rfl, rfl⟩
  go_wp2_with fail
  refine (Q.out _).mono ?_
  rintro e w' ⟨rfl, rfl⟩
  go_wp2
  go_ret
  exact ⟨rfl, _, rfl⟩
set_option maxHeartbeats 1000000 in
theorem rthree_001 (a b c q r s k m : Nat) (w : World)
    (A1 : Hid (∀ w, Calls Tryz.prog 168 #[.float .f64 b, .float .f64 a] w fun e w' => e = .returned (.bool false) ∧ w' = w))
    (A2 : Hid (∀ w, Calls Tryz.prog 168 #[.float .f64 c, .float .f64 b] w fun e w' => e = .returned (.bool false) ∧ w' = w))
    (A3 : Hid (∀ w, Calls Tryz.prog 168 #[.float .f64 b, .float .f64 a] w fun e w' => e = .returned (.bool true) ∧ w' = w))
    (h1 : ∀ t, (binOp .add t (.float .f64 b) (.float .f64 a)).run Tryz.prog w = .ok (.float .f64 r) (w.drewN k))
    (h2 : ∀ t, (binOp .add t (.float .f64 r) (.float .f64 c)).run Tryz.prog (w.drewN k) = .ok (.float .f64 s) ((w.drewN k).drewN m))
    (Q : Hid (∀ w, Calls Tryz.prog 169 #[.float .f64 s] w fun e w' => e = .returned (.float .f64 q) ∧ w' = w)) :
    Calls Tryz.prog 146 #[.float .f64 a, .float .f64 b, .float .f64 c] w fun e w' => e = .returned (.float .f64 q) ∧ ∃ k, w' = w.drewN k := by
  go_enter Tryz.func146, Tryz.ntmps146
  go_wp2_with fail
  refine (A1.out _).mono ?_
  rintro e w' ⟨rfl, rfl⟩
  go_wp2_with fail
  refine (A2.out _).mono ?_
  rintro e w' ⟨rfl, rfl⟩
  go_wp2_with fail
  refine (A3.out _).mono ?_
  rintro e w' ⟨rfl, rfl⟩
  go_wp2_with fail
  refine (Q.out _).mono ?_
  rintro e w' ⟨rfl, rfl⟩
  go_wp2
  go_ret
  exact ⟨rfl, _, rfl⟩
set_option maxHeartbeats 1000000 in
theorem rthree_010 (a b c q r s k m : Nat) (w : World)
    (A1 : Hid (∀ w, Calls Tryz.prog 168 #[.float .f64 b, .float .f64 a] w fun e w' => e = .returned (.bool false) ∧ w' = w))
    (A2 : Hid (∀ w, Calls Tryz.prog 168 #[.float .f64 c, .float .f64 b] w fun e w' => e = .returned (.bool true) ∧ w' = w))
    (A3 : Hid (∀ w, Calls Tryz.prog 168 #[.float .f64 c, .float .f64 a] w fun e w' => e = .returned (.bool false) ∧ w' = w))
    (h1 : ∀ t, (binOp .add t (.float .f64 a) (.float .f64 c)).run Tryz.prog w = .ok (.float .f64 r) (w.drewN k))
    (h2 : ∀ t, (binOp .add t (.float .f64 r) (.float .f64 b)).run Tryz.prog (w.drewN k) = .ok (.float .f64 s) ((w.drewN k).drewN m))
    (Q : Hid (∀ w, Calls Tryz.prog 169 #[.float .f64 s] w fun e w' => e = .returned (.float .f64 q) ∧ w' = w)) :
    Calls Tryz.prog 146 #[.float .f64 a, .float .f64 b, .float .f64 c] w fun e w' => e = .returned (.float .f64 q) ∧ ∃ k, w' = w.drewN k := by
  go_enter Tryz.func146, Tryz.ntmps146
  go_wp2_with fail
  refine (A1.out _).mono ?_
  rintro e w' ⟨rfl, rfl⟩
  go_wp2_with fail
  refine (A2.out _).mono ?_
  rintro e w' ⟨rfl, rfl⟩
  go_wp2_with fail
  refine (A3.out _).mono ?_
  rintro e w' ⟨rfl, rfl⟩
  go_wp2_with fail
  refine (Q.out _).mono ?_
  rintro e w' ⟨rfl, rfl⟩
  go_wp2
  go_ret
  exact ⟨rfl, _, rfl⟩
set_option maxHeartbeats 1000000 in
theorem rthree_011 (a b c q r s k m : Nat) (w : World)
    (A1 : Hid (∀ w, Calls Tryz.prog 168 #[.float .f64 b, .float .f64 a] w fun e w' => e = .returned (.bool false) ∧ w' = w))
    (A2 : Hid (∀ w, Calls Tryz.prog 168 #[.float .f64 c, .float .f64 b] w fun e w' => e = .returned (.bool true) ∧ w' = w))
    (A3 : Hid (∀ w, Calls Tryz.prog 168 #[.float .f64 c, .float .f64 a] w fun e w' => e = .returned (.bool true) ∧ w' = w))
    (h1 : ∀ t, (binOp .add t (.float .f64 c) (.float .f64 a)).run Tryz.prog w = .ok (.float .f64 r) (w.drewN k))
    (h2 : ∀ t, (binOp .add t (.float .f64 r) (.float .f64 b)).run Tryz.prog (w.drewN k) = .ok (.float .f64 s) ((w.drewN k).drewN m))
    (Q : Hid (∀ w, Calls Tryz.prog 169 #[.float .f64 s] w fun e w' => e = .returned (.float .f64 q) ∧ w' = w)) :
    Calls Tryz.prog 146 #[.float .f64 a, .float .f64 b, .float .f64 c] w fun e w' => e = .returned (.float .f64 q) ∧ ∃ k, w' = w.drewN k := by
  go_enter Tryz.func146, Tryz.ntmps146
  go_wp2_with fail
  refine (A1.out _).mono ?_
  rintro e w' ⟨rfl, rfl⟩
  go_wp2_with fail
  refine (A2.out _).mono ?_
  rintro e w' ⟨rfl, rfl⟩
  go_wp2_with fail
  refine (A3.out _).mono ?_
  rintro e w' ⟨rfl, rfl⟩
  go_wp2_with fail
  refine (Q.out _).mono ?_
  rintro e w' ⟨rfl, rfl⟩
  go_wp2
  go_ret
  exact ⟨rfl, _, rfl⟩
set_option maxHeartbeats 1000000 in
theorem rthree_100 (a b c q r s k m : Nat) (w : World)
    (A1 : Hid (∀ w, Calls Tryz.prog 168 #[.float .f64 b, .float .f64 a] w fun e w' => e = .returned (.bool true) ∧ w' = w))
    (A2 : Hid (∀ w, Calls Tryz.prog 168 #[.float .f64 c, .float .f64 a] w fun e w' => e = .returned (.bool false) ∧ w' = w))
    (A3 : Hid (∀ w, Calls Tryz.prog 168 #[.float .f64 a, .float .f64 b] w fun e w' => e = .returned (.bool false) ∧ w' = w))
    (h1 : ∀ t, (binOp .add t (.float .f64 b) (.float .f64 a)).run Tryz.prog w = .ok (.float .f64 r) (w.drewN k))
    (h2 : ∀ t, (binOp .add t (.float .f64 r) (.float .f64 c)).run Tryz.prog (w.drewN k) = .ok (.float .f64 s) ((w.drewN k).drewN m))
    (Q : Hid (∀ w, Calls Tryz.prog 169 #[.float .f64 s] w fun e w' => e = .returned (.float .f64 q) ∧ w' = w)) :
    Calls Tryz.prog 146 #[.float .f64 a, .float .f64 b, .float .f64 c] w fun e w' => e = .returned (.float .f64 q) ∧ ∃ k, w' = w.drewN k := by
  go_enter Tryz.func146, Tryz.ntmps146
  go_wp2_with fail
  refine (A1.out _).mono ?_
  rintro e w' ⟨rfl, rfl⟩
  go_wp2_with fail
  refine (A2.out _).mono ?_
  rintro e w' ⟨rfl, rfl⟩
  go_wp2_with fail
  refine (A3.out _).mono ?_
  rintro e w' ⟨rfl, rfl⟩
  go_wp2_with fail
  refine (Q.out _).mono ?_
  rintro e w' ⟨rfl, rfl⟩
  go_wp2
  go_ret
  exact ⟨rfl, _, rfl⟩
set_option maxHeartbeats 1000000 in
theorem rthree_101 (a b c q r s k m : Nat) (w : World)
    (A1 : Hid (∀ w, Calls Tryz.prog 168 #[.float .f64 b, .float .f64 a] w fun e w' => e = .returned (.bool true) ∧ w' = w))
    (A2 : Hid (∀ w, Calls Tryz.prog 168 #[.float .f64 c, .float .f64 a] w fun e w' => e = .returned (.bool false) ∧ w' = w))
    (A3 : Hid (∀ w, Calls Tryz.prog 168 #[.float .f64 a, .float .f64 b] w fun e w' => e = .returned (.bool true) ∧ w' = w))
    (h1 : ∀ t, (binOp .add t (.float .f64 a) (.float .f64 b)).run Tryz.prog w = .ok (.float .f64 r) (w.drewN k))
    (h2 : ∀ t, (binOp .add t (.float .f64 r) (.float .f64 c)).run Tryz.prog (w.drewN k) = .ok (.float .f64 s) ((w.drewN k).drewN m))
    (Q : Hid (∀ w, Calls Tryz.prog 169 #[.float .f64 s] w fun e w' => e = .returned (.float .f64 q) ∧ w' = w)) :
    Calls Tryz.prog 146 #[.float .f64 a, .float .f64 b, .float .f64 c] w fun e w' => e = .returned (.float .f64 q) ∧ ∃ k, w' = w.drewN k := by
  go_enter Tryz.func146, Tryz.ntmps146
  go_wp2_with fail
  refine (A1.out _).mono ?_
  rintro e w' ⟨rfl, rfl⟩
  go_wp2_with fail
  refine (A2.out _).mono ?_
  rintro e w' ⟨rfl, rfl⟩
  go_wp2_with fail
  refine (A3.out _).mono ?_
  rintro e w' ⟨rfl, rfl⟩
  go_wp2_with fail
  refine (Q.out _).mono ?_
  rintro e w' ⟨rfl, rfl⟩
  go_wp2
  go_ret
  exact ⟨rfl, _, rfl⟩
set_option maxHeartbeats 1000000 in
theorem rthree_110 (a b c q r s k m : Nat) (w : World)
    (A1 : Hid (∀ w, Calls Tryz.prog 168 #[.float .f64 b, .float .f64 a] w fun e w' => e = .returned (.bool true) ∧ w' = w))
    (A2 : Hid (∀ w, Calls Tryz.prog 168 #[.float .f64 c, .float .f64 a] w fun e w' => e = .returned (.bool true) ∧ w' = w))
    (A3 : Hid (∀ w, Calls Tryz.prog 168 #[.float .f64 c, .float .f64 b] w fun e w' => e = .returned (.bool false) ∧ w' = w))
    (h1 : ∀ t, (binOp .add t (.float .f64 b) (.float .f64 c)).run Tryz.prog w = .ok (.float .f64 r) (w.drewN k))
    (h2 : ∀ t, (binOp .add t (.float .f64 r) (.float .f64 a)).run Tryz.prog (w.drewN k) = .ok (.float .f64 s) ((w.drewN k).drewN m))
    (Q : Hid (∀ w, Calls Tryz.prog 169 #[.float .f64 s] w fun e w' => e = .returned (.float .f64 q) ∧ w' = w)) :
    Calls Tryz.prog 146 #[.float .f64 a, .float .f64 b, .float .f64 c] w fun e w' => e = .returned (.float .f64 q) ∧ ∃ k, w' = w.drewN k := by
  go_enter Tryz.func146, Tryz.ntmps146
  go_wp2_with fail
  refine (A1.out _).mono ?_
  rintro e w' ⟨rfl, rfl⟩
  go_wp2_with fail
  refine (A2.out _).mono ?_
  rintro e w' ⟨rfl, rfl⟩
  go_wp2_with fail
  refine (A3.out _).mono ?_
  rintro e w' ⟨rfl, rfl⟩
  go_wp2_with fail
  refine (Q.out _).mono ?_
  rintro e w' ⟨rfl, rfl⟩
  go_wp2
  go_ret
  exact ⟨rfl, _, rfl⟩
set_option maxHeartbeats 1000000 in
theorem rthree_111 (a b c q r s k m : Nat) (w : World)
    (A1 : Hid (∀ w, Calls Tryz.prog 168 #[.float .f64 b, .float .f64 a] w fun e w' => e = .returned (.bool true) ∧ w' = w))
    (A2 : Hid (∀ w, Calls Tryz.prog 168 #[.float .f64 c, .float .f64 a] w fun e w' => e = .returned (.bool true) ∧ w' = w))
    (A3 : Hid (∀ w, Calls Tryz.prog 168 #[.float .f64 c, .float .f64 b] w fun e w' => e = .returned (.bool true) ∧ w' = w))
    (h1 : ∀ t, (binOp .add t (.float .f64 c) (.float .f64 b)).run Tryz.prog w = .ok (.float .f64 r) (w.drewN k))
    (h2 : ∀ t, (binOp .add t (.float .f64 r) (.float .f64 a)).run Tryz.prog (w.drewN k) = .ok (.float .f64 s) ((w.drewN k).drewN m))
    (Q : Hid (∀ w, Calls Tryz.prog 169 #[.float .f64 s] w fun e w' => e = .returned (.float .f64 q) ∧ w' = w)) :
    Calls Tryz.prog 146 #[.float .f64 a, .float .f64 b, .float .f64 c] w fun e w' => e = .returned (.float .f64 q) ∧ ∃ k, w' = w.drewN k := by
  go_enter Tryz.func146, Tryz.ntmps146
  go_wp2_with fail
  refine (A1.out _).mono ?_
  rintro e w' ⟨rfl, rfl⟩
  go_wp2_with fail
  refine (A2.out _).mono ?_
  rintro e w' ⟨rfl, rfl⟩
  go_wp2_with fail
  refine (A3.out _).mono ?_
  rintro e w' ⟨rfl, rfl⟩
  go_wp2_with fail
  refine (Q.out _).mono ?_
  rintro e w' ⟨rfl, rfl⟩
  go_wp2
  go_ret
  exact ⟨rfl, _, rfl⟩
/-- THREE, the reference's -/
theorem rthree_at (a b c : Nat) (w : World) (ha : a < 18446744073709551616) (hb : b < 18446744073709551616) (hc : c < 18446744073709551616) :
    Calls Tryz.prog 146 #[.float .f64 a, .float .f64 b, .float .f64 c] w fun e w' => e = .returned (.float .f64 (thB a b c)) ∧ ∃ k, w' = w.drewN k := by
  have fin : ∀ u v z, u < 18446744073709551616 → v < 18446744073709551616 → z < 18446744073709551616 → ∃ r s k m : Nat, (∀ t, (binOp .add t (.float .f64 u) (.float .f64 v)).run Tryz.prog w = .ok (.float .f64 r) (w.drewN k)) ∧ (∀ t, (binOp .add t (.float .f64 r) (.float .f64 z)).run Tryz.prog (w.drewN k) = .ok (.float .f64 s) ((w.drewN k).drewN m)) ∧ Hid (∀ w, Calls Tryz.prog 169 #[.float .f64 s] w fun e w' => e = .returned (.float .f64 (plB (plB u v) z)) ∧ w' = w) := by
    intro u v z hu hv hz
    obtain ⟨r, k, h1, q1⟩ := add_any (P := Tryz.prog) w u _ v _ (IsQ.self hu) (IsQ.self hv)
    obtain ⟨s, m, h2, q2⟩ := add_any (P := Tryz.prog) (w.drewN k) r _ z _ q1 (IsQ.self hz)
    rw [plB_ql, plB_qr, plB_qr] at q2
    exact ⟨r, s, k, m, h1, h2, fun w => quieted_at s _ w q2⟩
  unfold thB
  by_cases k1 : key b < key a
  · have lk1 : loB a b = b := by unfold loB; rw [if_pos k1]
    have gk1 : hiB a b = a := by unfold hiB; rw [if_pos k1]
    rw [lk1, gk1]
    by_cases k2 : key c < key a
    · have lk2 : loB a c = c := by unfold loB; rw [if_pos k2]
      have gk2 : hiB a c = a := by unfold hiB; rw [if_pos k2]
      rw [lk2, gk2]
      by_cases k3 : key c < key b
      · have lk3 : loB b c = c := by unfold loB; rw [if_pos k3]
        have gk3 : hiB b c = b := by unfold hiB; rw [if_pos k3]
        rw [lk3, gk3]
        obtain ⟨r, s, k, m, h1, h2, hq⟩ := fin c b a hc hb ha
        exact rthree_111 a b c _ r s k m w (fun w => ahead_at b a _ w hb ha (decide_eq_true k1)) (fun w => ahead_at c a _ w hc ha (decide_eq_true k2)) (fun w => ahead_at c b _ w hc hb (decide_eq_true k3)) h1 h2 hq
      · have lk3 : loB b c = b := by unfold loB; rw [if_neg k3]
        have gk3 : hiB b c = c := by unfold hiB; rw [if_neg k3]
        rw [lk3, gk3]
        obtain ⟨r, s, k, m, h1, h2, hq⟩ := fin b c a hb hc ha
        exact rthree_110 a b c _ r s k m w (fun w => ahead_at b a _ w hb ha (decide_eq_true k1)) (fun w => ahead_at c a _ w hc ha (decide_eq_true k2)) (fun w => ahead_at c b _ w hc hb (decide_eq_false k3)) h1 h2 hq
    · have lk2 : loB a c = a := by unfold loB; rw [if_neg k2]
      have gk2 : hiB a c = c := by unfold hiB; rw [if_neg k2]
      rw [lk2, gk2]
      by_cases k3 : key a < key b
      · have lk3 : loB b a = a := by unfold loB; rw [if_pos k3]
        have gk3 : hiB b a = b := by unfold hiB; rw [if_pos k3]
        rw [lk3, gk3]
        obtain ⟨r, s, k, m, h1, h2, hq⟩ := fin a b c ha hb hc
        exact rthree_101 a b c _ r s k m w (fun w => ahead_at b a _ w hb ha (decide_eq_true k1)) (fun w => ahead_at c a _ w hc ha (decide_eq_false k2)) (fun w => ahead_at a b _ w ha hb (decide_eq_true k3)) h1 h2 hq
      · have lk3 : loB b a = b := by unfold loB; rw [if_neg k3]
        have gk3 : hiB b a = a := by unfold hiB; rw [if_neg k3]
        rw [lk3, gk3]
        obtain ⟨r, s, k, m, h1, h2, hq⟩ := fin b a c hb ha hc
        exact rthree_100 a b c _ r s k m w (fun w => ahead_at b a _ w hb ha (decide_eq_true k1)) (fun w => ahead_at c a _ w hc ha (decide_eq_false k2)) (fun w => ahead_at a b _ w ha hb (decide_eq_false k3)) h1 h2 hq
  · have lk1 : loB a b = a := by unfold loB; rw [if_neg k1]
    have gk1 : hiB a b = b := by unfold hiB; rw [if_neg k1]
    rw [lk1, gk1]
    by_cases k2 : key c < key b
    · have lk2 : loB b c = c := by unfold loB; rw [if_pos k2]
      have gk2 : hiB b c = b := by unfold hiB; rw [if_pos k2]
      rw [lk2, gk2]
      by_cases k3 : key c < key a
      · have lk3 : loB a c = c := by unfold loB; rw [if_pos k3]
        have gk3 : hiB a c = a := by unfold hiB; rw [if_pos k3]
        rw [lk3, gk3]
        obtain ⟨r, s, k, m, h1, h2, hq⟩ := fin c a b hc ha hb
        exact rthree_011 a b c _ r s k m w (fun w => ahead_at b a _ w hb ha (decide_eq_false k1)) (fun w => ahead_at c b _ w hc hb (decide_eq_true k2)) (fun w => ahead_at c a _ w hc ha (decide_eq_true k3)) h1 h2 hq
      · have lk3 : loB a c = a := by unfold loB; rw [if_neg k3]
        have gk3 : hiB a c = c := by unfold hiB; rw [if_neg k3]
        rw [lk3, gk3]
        obtain ⟨r, s, k, m, h1, h2, hq⟩ := fin a c b ha hc hb
        exact rthree_010 a b c _ r s k m w (fun w => ahead_at b a _ w hb ha (decide_eq_false k1)) (fun w => ahead_at c b _ w hc hb (decide_eq_true k2)) (fun w => ahead_at c a _ w hc ha (decide_eq_false k3)) h1 h2 hq
    · have lk2 : loB b c = b := by unfold loB; rw [if_neg k2]
      have gk2 : hiB b c = c := by unfold hiB; rw [if_neg k2]
      rw [lk2, gk2]
      by_cases k3 : key b < key a
      · have lk3 : loB a b = b := by unfold loB; rw [if_pos k3]
        have gk3 : hiB a b = a := by unfold hiB; rw [if_pos k3]
        rw [lk3, gk3]
        obtain ⟨r, s, k, m, h1, h2, hq⟩ := fin b a c hb ha hc
        exact rthree_001 a b c _ r s k m w (fun w => ahead_at b a _ w hb ha (decide_eq_false k1)) (fun w => ahead_at c b _ w hc hb (decide_eq_false k2)) (fun w => ahead_at b a _ w hb ha (decide_eq_true k3)) h1 h2 hq
      · have lk3 : loB a b = a := by unfold loB; rw [if_neg k3]
        have gk3 : hiB a b = b := by unfold hiB; rw [if_neg k3]
        rw [lk3, gk3]
        obtain ⟨r, s, k, m, h1, h2, hq⟩ := fin a b c ha hb hc
        exact rthree_000 a b c _ r s k m w (fun w => ahead_at b a _ w hb ha (decide_eq_false k1)) (fun w => ahead_at c b _ w hc hb (decide_eq_false k2)) (fun w => ahead_at b a _ w hb ha (decide_eq_false k3)) h1 h2 hq
end Go.Proofs.YtbibhgikmnpbfaaGreatDoor

namespace Go.Proofs.YtbibhgikmnpbfaaGreatDoor
open Go.RowKit Tf
theorem run_store_float {P : Program} {w : World} {a : Addr} {m : Mode} (k : FloatKind) (x : Nat) : (store a (.float k x) m).run P w = stored P w a (.float k x) m := run_store P w a _ m rfl
attribute [local go_sem] run_bits run_from raw_feq raw_fne raw_flt raw_fgt run_neg run_store_float
theorem mul_ql (a b : Nat) : Ieee.double.mul (qB a) b = Ieee.double.mul a b := by
  cases h : isN a
  · rw [qB_of h]
  · rw [mul_nan a b (.inl h), mul_nan _ _ (.inl (by rw [qB_isN]; exact h))]
theorem mul_qr (a b : Nat) : Ieee.double.mul a (qB b) = Ieee.double.mul a b := by rw [Go.Proofs.YtbibhgikmnpbfaaGreatDoor.mul_comm, mul_ql, Go.Proofs.YtbibhgikmnpbfaaGreatDoor.mul_comm]
theorem mul_any {P : Program} (w : World) (s q x y : Nat) (h : IsQ s q) (k : IsQ x y) : ∃ r n, (∀ t, (binOp .mul t (.float .f64 s) (.float .f64 x)).run P w = .ok (.float .f64 r) (w.drewN n)) ∧ IsQ r (mlB q y) := by
  have e0 : mlB q y = mlB s x := by unfold mlB; rw [← h.2, ← k.2, mul_ql, mul_qr]
  rw [e0]
  cases e : Ieee.double.mul s x with
  | none => exact ⟨nanOf w s x, 1, fun t => run_nan_mul w t s x e, nanOf_lt _ _ _, by rw [mlB_none e]; exact qB_N (isN_nanOf _ _ _)⟩
  | some r => exact ⟨r, 0, fun t => run_float_arith w .mul t .f64 s x r e, (mul_fact e h.1 k.1).1, by rw [mlB_some e]; exact qB_of (mul_fact e h.1 k.1).2⟩
theorem addB_q {a b c d : Nat} (hb : b < 18446744073709551616) (hd : d < 18446744073709551616) (h : qB a = qB c) (k : qB b = qB d) : addB a (negB b) = addB c (negB d) := by
  cases h1 : isN a
  · have h2 : isN c = false := by rw [← qB_isN, ← h, qB_isN]; exact h1
    rw [qB_of h1, qB_of h2] at h
    subst h
    cases h3 : isN b
    · have h4 : isN d = false := by rw [← qB_isN, ← k, qB_isN]; exact h3
      rw [qB_of h3, qB_of h4] at k
      rw [k]
    · have h4 : isN d = true := by rw [← qB_isN, ← k, qB_isN]; exact h3
      rw [addB_none (add_nan _ _ (.inr (by rw [negB_isN hb]; exact h3))), addB_none (add_nan _ _ (.inr (by rw [negB_isN hd]; exact h4)))]
  · have h2 : isN c = true := by rw [← qB_isN, ← h, qB_isN]; exact h1
    rw [addB_none (add_nan _ _ (.inl h1)), addB_none (add_nan _ _ (.inl h2))]
/-- a word whose one form is q -/
def IsC (s q : Nat) : Prop := s < 18446744073709551616 ∧ canonB s = q
theorem sub_any {P : Program} (w : World) (s q x y : Nat) (h : IsQ s q) (k : IsQ x y) : ∃ r n, (∀ t, (binOp .sub t (.float .f64 s) (.float .f64 x)).run P w = .ok (.float .f64 r) (w.drewN n)) ∧ IsC r (sbB q y) := by
  have e0 : sbB q y = addB s (negB x) := addB_q k.lt k.1 (by rw [← h.2, qB_qB]) (by rw [← k.2, qB_qB])
  rw [e0]
  have ea := sub_add s x k.1
  cases e : Ieee.double.sub s x with
  | none =>
    refine ⟨nanOf w s x, 1, fun t => run_nan_sub w t s x e, nanOf_lt _ _ _, ?_⟩
    rw [addB_none (by rw [← ea]; exact e)]
    unfold canonB; rw [if_pos (isN_nanOf _ _ _)]
  | some r =>
    rw [e] at ea
    exact ⟨r, 0, fun t => run_float_arith w .sub t .f64 s x r e, (add_facts h.1 (negB_lt' k.1) ea.symm).1, by rw [addB_some ea.symm]⟩
theorem run_nan_div {P : Program} (w : World) (t : TypeId) (x y : Nat) (h : Ieee.double.div x y = none) :
    (binOp .quo t (.float .f64 x) (.float .f64 y)).run P w = .ok (.float .f64 (nanOf w x y)) w.drew := by
  have h' : FloatKind.f64.format.div x y = none := h
  simp [binOp, Op.floatArith, h', nanOf, Question.forced]
theorem div_lt {x y r : Nat} (h : Ieee.double.div x y = some r) : r < 18446744073709551616 := Ieee.Format.div_lt Ieee.double h
theorem div_any {P : Program} (w : World) (s x : Nat) : ∃ r n, (∀ t, (binOp .quo t (.float .f64 s) (.float .f64 x)).run P w = .ok (.float .f64 r) (w.drewN n)) ∧ IsC r (dvB s x) := by
  cases e : Ieee.double.div s x with
  | none => exact ⟨nanOf w s x, 1, fun t => run_nan_div w t s x e, nanOf_lt _ _ _, by rw [dvB_none e]; unfold canonB; rw [if_pos (isN_nanOf _ _ _)]⟩
  | some r => exact ⟨r, 0, fun t => run_float_arith w .quo t .f64 s x r e, div_lt e, by rw [dvB_some e]⟩
theorem sqrt_lt {x r : Nat} (h : Ieee.double.sqrt x = some r) : r < 18446744073709551616 := Ieee.Format.sqrt_lt Ieee.double h
theorem run_sqrt (x : Nat) (w : World) : ∃ r n, (callFunc 160 #[.float .f64 x]).run Tryz.prog w = .ok (.value (.float .f64 r)) (w.drewN n) ∧ IsC r (rtB x) := by
  have e0 : Extern.MathSqrt.sqrt #[.float .f64 x] = (match FloatKind.f64.format.sqrt x with | some r => pure (.float .f64 r) | none => do pure (.float .f64 (← choose (.nanBits .f64 x x)))) := rfl
  rw [run_callFunc_extern (e := Extern.MathSqrt.sqrt) Tryz.func160 (by kernel_rfl) (by kernel_rfl) (by kernel_rfl) (by kernel_rfl), e0]
  cases e : Ieee.double.sqrt x with
  | none =>
    refine ⟨nanOf w x x, 1, ?_, nanOf_lt _ _ _, by rw [rtB_none e]; unfold canonB; rw [if_pos (isN_nanOf _ _ _)]⟩
    have h' : FloatKind.f64.format.sqrt x = none := e
    rw [h']
    simp [nanOf, Question.forced]
    rfl
  | some r =>
    refine ⟨r, 0, ?_, sqrt_lt e, by rw [rtB_some e]⟩
    have h' : FloatKind.f64.format.sqrt x = some r := e
    rw [h']
    simp
    rfl
set_option maxHeartbeats 1000000 in
theorem square_at (x : Nat) (w : World) (hx : x < 18446744073709551616) :
    Calls Tryz.prog 133 #[.float .f64 x] w fun e w' => ∃ r n, e = .returned (.float .f64 r) ∧ w' = w.drewN n ∧ IsQ r (sqB x) := by
  obtain ⟨r, n, hr, hq⟩ := mul_any (P := Tryz.prog) w x _ x _ (IsQ.self hx) (IsQ.self hx)
  have HQ : Hid (IsQ r (sqB x)) := by unfold sqB mlB; rw [← mul_ql, ← mul_qr]; exact hq
  clear hq hx
  go_enter Tryz.func133, Tryz.ntmps133
  go_wp2
  go_ret
  exact ⟨r, n, rfl, rfl, HQ.out⟩
set_option maxHeartbeats 1000000 in
theorem area_at (x y u v : Nat) (w : World) (hx : x < 18446744073709551616) (hy : y < 18446744073709551616) (hu : u < 18446744073709551616) (hv : v < 18446744073709551616) :
    Calls Tryz.prog 135 #[.float .f64 x, .float .f64 y, .float .f64 u, .float .f64 v] w fun e w' => ∃ r n, e = .returned (.float .f64 r) ∧ w' = w.drewN n ∧ IsC r (sbB (mlB x v) (mlB y u)) := by
  obtain ⟨p, n, hp, pq⟩ := mul_any (P := Tryz.prog) w x _ v _ (IsQ.self hx) (IsQ.self hv)
  obtain ⟨q, m, hq, qq⟩ := mul_any (P := Tryz.prog) (w.drewN n) y _ u _ (IsQ.self hy) (IsQ.self hu)
  obtain ⟨r, l, hr, rr⟩ := sub_any (P := Tryz.prog) (w.drewN (n + m)) p _ q _ pq qq
  rw [World.drewN_drewN] at hq hr
  have HQ : Hid (IsC r (sbB (mlB x v) (mlB y u))) := by
    have e1 : mlB x v = mlB (qB x) (qB v) := by unfold mlB; rw [mul_ql, mul_qr]
    have e2 : mlB y u = mlB (qB y) (qB u) := by unfold mlB; rw [mul_ql, mul_qr]
    rw [e1, e2]; exact rr
  clear pq qq rr hx hy hu hv
  go_enter Tryz.func135, Tryz.ntmps135
  go_wp2
  go_ret
  exact ⟨r, _, rfl, rfl, HQ.out⟩
set_option maxHeartbeats 1000000 in
theorem sqrt_at (x : Nat) (w : World) :
    Calls Tryz.prog 131 #[.float .f64 x] w fun e w' => ∃ r n, e = .returned (.float .f64 r) ∧ w' = w.drewN n ∧ IsC r (rtB x) := by
  obtain ⟨r, n, hr, hq⟩ := run_sqrt x w
  have HQ := hid hq
  clear hq
  go_enter Tryz.func131, Tryz.ntmps131
  go_wp2
  go_ret
  exact ⟨r, n, rfl, rfl, HQ.out⟩
set_option maxHeartbeats 2000000 in
theorem vcanon_at (x y z a b c : Nat) (w : World) (hx : IsC x a) (hy : IsC y b) (hz : IsC z c) :
    Calls Tryz.prog 134 #[.float .f64 x, .float .f64 y, .float .f64 z] w fun e w' => e = .returned (.agg #[.float .f64 a, .float .f64 b, .float .f64 c]) ∧ Below w.heap.size w w' := by
  obtain ⟨x1, x2⟩ := hx
  obtain ⟨y1, y2⟩ := hy
  obtain ⟨z1, z2⟩ := hz
  have CX : Hid (∀ w, Calls Tryz.prog 75 #[.float .f64 x] w fun e w' => e = .returned (.float .f64 a) ∧ w' = w) := fun w => by rw [← x2]; exact canon_any x w x1
  have CY : Hid (∀ w, Calls Tryz.prog 75 #[.float .f64 y] w fun e w' => e = .returned (.float .f64 b) ∧ w' = w) := fun w => by rw [← y2]; exact canon_any y w y1
  have CZ : Hid (∀ w, Calls Tryz.prog 75 #[.float .f64 z] w fun e w' => e = .returned (.float .f64 c) ∧ w' = w) := fun w => by rw [← z2]; exact canon_any z w z1
  have A0 := hid (bl1 w (.cells #[.float .f64 0, .float .f64 0, .float .f64 0] 131))
  have r0 := heap_alloc_new w (.cells #[.float .f64 0, .float .f64 0, .float .f64 0] 131)
  have R0 := hid r0
  clear x1 x2 y1 y2 z1 z2 r0
  go_enter Tryz.func134, Tryz.ntmps134
  go_wp2_with fail
  refine (CX.out _).mono ?_
  rintro e W ⟨rfl, hW⟩
  have r1 : W.heap[w.heap.size]? = some (.cells #[.float .f64 0, .float .f64 0, .float .f64 0] 131) := by rw [hW]; exact R0.out
  have A1 : Hid (Ab w W) := by rw [hW]; exact A0.out
  obtain ⟨⟨o0, o1, o2⟩, o3, o4, o5⟩ := rowfacts r1
  have R1 := hid r1
  clear hW r1 A0 R0
  go_wp2_with fail
  refine (CY.out _).mono ?_
  rintro e W ⟨rfl, rfl⟩
  go_wp2_with fail
  refine (CZ.out _).mono ?_
  rintro e W ⟨rfl, rfl⟩
  go_wp2
  refine bodyPost_ret ?_ rfl ⟨rfl, ?_⟩
  · exact results_cell_row Tryz.results134 _ _ w.heap.size _ _ (0, 0) _ rfl (row3 R1.out) Tryz.underlying131 rfl (by kernel_rfl)
  · exact ((Ab.setk A1.out (Nat.le_refl _) _).setk (Nat.le_refl _) _).setk (Nat.le_refl _) _
end Go.Proofs.YtbibhgikmnpbfaaGreatDoor

namespace Go.Proofs.YtbibhgikmnpbfaaGreatDoor
open Go.RowKit Tf
attribute [local go_sem] run_bits run_from raw_feq raw_fne raw_flt raw_fgt run_neg run_store_float
theorem sbB_q {a b : Nat} (hb : b < 18446744073709551616) : sbB (qB a) (qB b) = sbB a b := addB_q (qB_lt hb) hb (qB_qB a) (qB_qB b)
theorem Abx.drewN {W w : World} {g n : Nat} {T : TypeId} (h : Abx W g n T w) (k : Nat) : Abx W g n T (w.drewN k) := h
theorem W3rows (w : World) (A B C : Obj) : (((w.alloc A).alloc B).alloc C).heap[w.heap.size]? = some A ∧ (((w.alloc A).alloc B).alloc C).heap[w.heap.size + 1]? = some B ∧ (((w.alloc A).alloc B).alloc C).heap[w.heap.size + 1 + 1]? = some C := by
  refine ⟨?_, ?_, heap_alloc3_new _ _ _ _⟩
  · rw [Below.heap_alloc _ _ _ (by simp; omega)]; exact heap_alloc2_old _ _ _
  · rw [Below.heap_alloc _ _ _ (by simp)]; exact heap_alloc2_new _ _ _
set_option maxHeartbeats 4000000 in
theorem minus_at (x y z u v t : Nat) (w : World) (hx : x < 18446744073709551616) (hy : y < 18446744073709551616) (hz : z < 18446744073709551616) (hu : u < 18446744073709551616) (hv : v < 18446744073709551616) (ht : t < 18446744073709551616) :
    Calls Tryz.prog 97 #[.agg #[.float .f64 x, .float .f64 y, .float .f64 z], .agg #[.float .f64 u, .float .f64 v, .float .f64 t]] w fun e w' => e = .returned (.agg #[.float .f64 (sbB x u), .float .f64 (sbB y v), .float .f64 (sbB z t)]) ∧ Below w.heap.size w w' := by
  obtain ⟨r1, n1, k1, q1⟩ := sub_any (P := Tryz.prog) (((w.alloc (.cells #[.float .f64 x, .float .f64 y, .float .f64 z] 131)).alloc (.cells #[.float .f64 u, .float .f64 v, .float .f64 t] 131)).alloc (.cells #[.float .f64 0, .float .f64 0, .float .f64 0] 131)) x _ u _ (IsQ.self hx) (IsQ.self hu)
  obtain ⟨r2, n2, k2, q2⟩ := sub_any (P := Tryz.prog) ((((w.alloc (.cells #[.float .f64 x, .float .f64 y, .float .f64 z] 131)).alloc (.cells #[.float .f64 u, .float .f64 v, .float .f64 t] 131)).alloc (.cells #[.float .f64 0, .float .f64 0, .float .f64 0] 131)).drewN n1) y _ v _ (IsQ.self hy) (IsQ.self hv)
  obtain ⟨r3, n3, k3, q3⟩ := sub_any (P := Tryz.prog) ((((w.alloc (.cells #[.float .f64 x, .float .f64 y, .float .f64 z] 131)).alloc (.cells #[.float .f64 u, .float .f64 v, .float .f64 t] 131)).alloc (.cells #[.float .f64 0, .float .f64 0, .float .f64 0] 131)).drewN (n1 + n2)) z _ t _ (IsQ.self hz) (IsQ.self ht)
  rw [World.drewN_drewN] at k2 k3
  rw [sbB_q hu] at q1
  rw [sbB_q hv] at q2
  rw [sbB_q ht] at q3
  have CN := hid (fun w => vcanon_at r1 r2 r3 _ _ _ w q1 q2 q3)
  have A0 := hid (bl3 w (.cells #[.float .f64 x, .float .f64 y, .float .f64 z] 131) (.cells #[.float .f64 u, .float .f64 v, .float .f64 t] 131) (.cells #[.float .f64 0, .float .f64 0, .float .f64 0] 131))
  have R0 := hid (W3rows w (.cells #[.float .f64 x, .float .f64 y, .float .f64 z] 131) (.cells #[.float .f64 u, .float .f64 v, .float .f64 t] 131) (.cells #[.float .f64 0, .float .f64 0, .float .f64 0] 131))
  clear q1 q2 q3 hx hy hz hu hv ht
  go_enter Tryz.func97, Tryz.ntmps97
  go_wp2_with fail
  refine (CN.out _).mono ?_
  rintro e w4 ⟨rfl, b4⟩
  have A4 : Hid (Ab w w4) := Ab.call (Ab.drewN A0.out _) b4
  have r0 : w4.heap[w.heap.size + 1 + 1]? = some (.cells #[.float .f64 0, .float .f64 0, .float .f64 0] 131) := Ab.heap b4 R0.out.2.2
  obtain ⟨⟨o0, o1, o2⟩, o3, o4, o5⟩ := rowfacts r0
  have R4 := hid r0
  clear r0 b4 A0 R0 k1 k2 k3
  go_wp2
  refine bodyPost_ret ?_ rfl ⟨rfl, ?_⟩
  · exact results_cell_row Tryz.results97 _ _ (w.heap.size + 1 + 1) _ _ (0, 0) _ rfl (row3 R4.out) Tryz.underlying131 rfl (by kernel_rfl)
  · exact ((Ab.setk A4.out (by omega) _).setk (by omega) _).setk (by omega) _
set_option maxHeartbeats 8000000 in
theorem cross_at (x y z u v t : Nat) (w : World) (hx : x < 18446744073709551616) (hy : y < 18446744073709551616) (hz : z < 18446744073709551616) (hu : u < 18446744073709551616) (hv : v < 18446744073709551616) (ht : t < 18446744073709551616) :
    Calls Tryz.prog 96 #[.agg #[.float .f64 x, .float .f64 y, .float .f64 z], .agg #[.float .f64 u, .float .f64 v, .float .f64 t]] w fun e w' => e = .returned (.agg #[.float .f64 (sbB (mlB y t) (mlB z v)), .float .f64 (sbB (mlB z u) (mlB x t)), .float .f64 (sbB (mlB x v) (mlB y u))]) ∧ Below w.heap.size w w' := by
  obtain ⟨c0, hc0⟩ : ∃ c, sbB (mlB y t) (mlB z v) = c := ⟨_, rfl⟩
  obtain ⟨c1, hc1⟩ : ∃ c, sbB (mlB z u) (mlB x t) = c := ⟨_, rfl⟩
  obtain ⟨c2, hc2⟩ : ∃ c, sbB (mlB x v) (mlB y u) = c := ⟨_, rfl⟩
  rw [hc0, hc1, hc2]
  have T0 : Hid (∀ u0, Calls Tryz.prog 135 #[.float .f64 y, .float .f64 z, .float .f64 v, .float .f64 t] u0 fun e w' => ∃ r n, e = .returned (.float .f64 r) ∧ w' = u0.drewN n ∧ Hid (IsC r c0)) := fun u0 => by rw [← hc0]; exact area_at y z v t u0 hy hz hv ht
  have T1 : Hid (∀ u0, Calls Tryz.prog 135 #[.float .f64 z, .float .f64 x, .float .f64 t, .float .f64 u] u0 fun e w' => ∃ r n, e = .returned (.float .f64 r) ∧ w' = u0.drewN n ∧ Hid (IsC r c1)) := fun u0 => by rw [← hc1]; exact area_at z x t u u0 hz hx ht hu
  have T2 : Hid (∀ u0, Calls Tryz.prog 135 #[.float .f64 x, .float .f64 y, .float .f64 u, .float .f64 v] u0 fun e w' => ∃ r n, e = .returned (.float .f64 r) ∧ w' = u0.drewN n ∧ Hid (IsC r c2)) := fun u0 => by rw [← hc2]; exact area_at x y u v u0 hx hy hu hv
  have CN := hid (fun r1 r2 r3 w (q1 : IsC r1 c0) (q2 : IsC r2 c1) (q3 : IsC r3 c2) => vcanon_at r1 r2 r3 _ _ _ w q1 q2 q3)
  have A0 := hid (bl3 w (.cells #[.float .f64 x, .float .f64 y, .float .f64 z] 131) (.cells #[.float .f64 u, .float .f64 v, .float .f64 t] 131) (.cells #[.float .f64 0, .float .f64 0, .float .f64 0] 131))
  have R0 := hid (W3rows w (.cells #[.float .f64 x, .float .f64 y, .float .f64 z] 131) (.cells #[.float .f64 u, .float .f64 v, .float .f64 t] 131) (.cells #[.float .f64 0, .float .f64 0, .float .f64 0] 131))
  clear hx hy hz hu hv ht hc0 hc1 hc2
  go_enter Tryz.func96, Tryz.ntmps96
  go_upto_region 1 with fail
  generalize hW : World.alloc _ _ = W
  have AW : Hid (Ab w W) := by rw [← hW]; exact A0.out
  have ra : W.heap[w.heap.size]? = some (.cells #[.float .f64 x, .float .f64 y, .float .f64 z] 131) := by rw [← hW]; exact R0.out.1
  have rb : W.heap[w.heap.size + 1]? = some (.cells #[.float .f64 u, .float .f64 v, .float .f64 t] 131) := by rw [← hW]; exact R0.out.2.1
  have rc : W.heap[w.heap.size + 1 + 1]? = some (.cells #[.float .f64 0, .float .f64 0, .float .f64 0] 131) := by rw [← hW]; exact R0.out.2.2
  have KS : Hid (∀ w', Abx W (w.heap.size + 1 + 1) 3 131 w' → Abx W (w.heap.size + 1 + 1) 3 131 w' ∧ w'.cell? ⟨w.heap.size, 0, none⟩ = some (.float .f64 x) ∧ w'.cell? ⟨w.heap.size, 1, none⟩ = some (.float .f64 y) ∧ w'.cell? ⟨w.heap.size, 2, none⟩ = some (.float .f64 z) ∧ w'.cell? ⟨w.heap.size + 1, 0, none⟩ = some (.float .f64 u) ∧ w'.cell? ⟨w.heap.size + 1, 1, none⟩ = some (.float .f64 v) ∧ w'.cell? ⟨w.heap.size + 1, 2, none⟩ = some (.float .f64 t) ∧ w'.frozen? ⟨w.heap.size + 1 + 1, 0, none⟩ = false ∧ w'.frozen? ⟨w.heap.size + 1 + 1, 1, none⟩ = false ∧ w'.frozen? ⟨w.heap.size + 1 + 1, 2, none⟩ = false ∧ w'.cell? ⟨w.heap.size + 1 + 1, 0, none⟩ = some (rv w' (w.heap.size + 1 + 1) 0) ∧ w'.cell? ⟨w.heap.size + 1 + 1, 1, none⟩ = some (rv w' (w.heap.size + 1 + 1) 1) ∧ w'.cell? ⟨w.heap.size + 1 + 1, 2, none⟩ = some (rv w' (w.heap.size + 1 + 1) 2)) := by
    intro w' hw
    obtain ⟨-, p3, p4, p5⟩ := rowfacts (hw.heap (by omega) ra)
    obtain ⟨-, p6, p7, p8⟩ := rowfacts (hw.heap (by omega) rb)
    exact ⟨hw, p3, p4, p5, p6, p7, p8, hw.free 0, hw.free 1, hw.free 2, hw.some (by omega), hw.some (by omega), hw.some (by omega)⟩
  have A1 : Abx W (w.heap.size + 1 + 1) 3 131 W := (Ab.refl W).x rfl rc
  clear ra rb rc hW A0 R0
  go_region_held3 (fun w' => Abx W (w.heap.size + 1 + 1) 3 131 w' ∧ w'.cell? ⟨w.heap.size, 0, none⟩ = some (.float .f64 x) ∧ w'.cell? ⟨w.heap.size, 1, none⟩ = some (.float .f64 y) ∧ w'.cell? ⟨w.heap.size, 2, none⟩ = some (.float .f64 z) ∧ w'.cell? ⟨w.heap.size + 1, 0, none⟩ = some (.float .f64 u) ∧ w'.cell? ⟨w.heap.size + 1, 1, none⟩ = some (.float .f64 v) ∧ w'.cell? ⟨w.heap.size + 1, 2, none⟩ = some (.float .f64 t) ∧ w'.frozen? ⟨w.heap.size + 1 + 1, 0, none⟩ = false ∧ w'.frozen? ⟨w.heap.size + 1 + 1, 1, none⟩ = false ∧ w'.frozen? ⟨w.heap.size + 1 + 1, 2, none⟩ = false ∧ w'.cell? ⟨w.heap.size + 1 + 1, 0, none⟩ = some (rv w' (w.heap.size + 1 + 1) 0) ∧ w'.cell? ⟨w.heap.size + 1 + 1, 1, none⟩ = some (rv w' (w.heap.size + 1 + 1) 1) ∧ w'.cell? ⟨w.heap.size + 1 + 1, 2, none⟩ = some (rv w' (w.heap.size + 1 + 1) 2)) ((refine KS.out _ ?_; (with_reducible (repeat (first | assumption | apply Abx.drew | apply Abx.drewN | apply Abx.set | (refine Abx.call ?_ (by assumption))))); done)) (first
    | (go_at_call 135; have hh := q2.out; refine (T2.out _).mono ?_; rintro e w3 ⟨r3, n3, rfl, rfl, q3⟩)
    | (go_at_call 135; have hh := q1.out; refine (T1.out _).mono ?_; rintro e w2 ⟨r2, n2, rfl, rfl, q2⟩)
    | (go_at_call 135; refine (T0.out _).mono ?_; rintro e w1 ⟨r1, n1, rfl, rfl, q1⟩)
    | (go_at_call 134; refine (CN.out _ _ _ _ q1.out q2.out q3.out).mono ?_; rintro e w4 ⟨rfl, b4⟩))
  have A2 : Abx W (w.heap.size + 1 + 1) 3 131 w4 := Abx.call (A1.drewN _) b4
  clear KS A1 b4
  go_wp2
  refine bodyPost_ret ?_ rfl ⟨rfl, ?_⟩
  · exact results_cell_row Tryz.results96 _ _ (w.heap.size + 1 + 1) _ _ (0, 0) _ rfl (set3 A2) Tryz.underlying131 rfl (by kernel_rfl)
  · exact (((A2.set 0 _).set 1 _).set 2 _).ab AW.out (by omega)
set_option maxHeartbeats 8000000 in
theorem length_at (x y z : Nat) (w : World) (hx : x < 18446744073709551616) (hy : y < 18446744073709551616) (hz : z < 18446744073709551616) :
    Calls Tryz.prog 95 #[.agg #[.float .f64 x, .float .f64 y, .float .f64 z]] w fun e w' => e = .returned (.float .f64 (lnB x y z)) ∧ Below w.heap.size w w' := by
  obtain ⟨T, hT⟩ : ∃ T, thB (sqB x) (sqB y) (sqB z) = T := ⟨_, rfl⟩
  obtain ⟨l, hl⟩ : ∃ l, lnB x y z = l := ⟨_, rfl⟩
  have hlT : rtB T = l := by rw [← hT, ← hl]; rfl
  rw [hl]
  have TH : Hid (∀ r1 r2 r3 u0, IsQ r1 (sqB x) → IsQ r2 (sqB y) → IsQ r3 (sqB z) → Calls Tryz.prog 132 #[.float .f64 r1, .float .f64 r2, .float .f64 r3] u0 fun e w' => e = .returned (.float .f64 T) ∧ Below u0.heap.size u0 w') := fun r1 r2 r3 u0 q1 q2 q3 => by
    rw [← hT, ← q1.2, ← q2.2, ← q3.2, ← thB_q]
    exact three_at r1 r2 r3 u0 q1.1 q2.1 q3.1
  have T0 : Hid (∀ u0, Calls Tryz.prog 133 #[.float .f64 x] u0 fun e w' => ∃ r n, e = .returned (.float .f64 r) ∧ w' = u0.drewN n ∧ Hid (IsQ r (sqB x))) := fun u0 => square_at x u0 hx
  have T1 : Hid (∀ u0, Calls Tryz.prog 133 #[.float .f64 y] u0 fun e w' => ∃ r n, e = .returned (.float .f64 r) ∧ w' = u0.drewN n ∧ Hid (IsQ r (sqB y))) := fun u0 => square_at y u0 hy
  have T2 : Hid (∀ u0, Calls Tryz.prog 133 #[.float .f64 z] u0 fun e w' => ∃ r n, e = .returned (.float .f64 r) ∧ w' = u0.drewN n ∧ Hid (IsQ r (sqB z))) := fun u0 => square_at z u0 hz
  have SQ : Hid (∀ u0, Calls Tryz.prog 131 #[.float .f64 T] u0 fun e w' => ∃ r n, e = .returned (.float .f64 r) ∧ w' = u0.drewN n ∧ Hid (IsC r l)) := fun u0 => by rw [← hlT]; exact sqrt_at T u0
  have CN : Hid (∀ r u0, IsC r l → Calls Tryz.prog 75 #[.float .f64 r] u0 fun e w' => e = .returned (.float .f64 l) ∧ w' = u0) := fun r u0 q => by rw [← q.2]; exact canon_any r u0 q.1
  have A0 := hid (bl1 w (.cells #[.float .f64 x, .float .f64 y, .float .f64 z] 131))
  have R0 := hid (heap_alloc_new w (.cells #[.float .f64 x, .float .f64 y, .float .f64 z] 131))
  clear hx hy hz hT hl hlT
  go_enter Tryz.func95, Tryz.ntmps95
  go_upto_region 1 with fail
  generalize hW : World.alloc _ _ = W
  have AW : Hid (Ab w W) := by rw [← hW]; exact A0.out
  have ra : W.heap[w.heap.size]? = some (.cells #[.float .f64 x, .float .f64 y, .float .f64 z] 131) := by rw [← hW]; exact R0.out
  have KS : Hid (∀ w', Ab W w' → Ab W w' ∧ w'.cell? ⟨w.heap.size, 0, none⟩ = some (.float .f64 x) ∧ w'.cell? ⟨w.heap.size, 1, none⟩ = some (.float .f64 y) ∧ w'.cell? ⟨w.heap.size, 2, none⟩ = some (.float .f64 z)) := by
    intro w' hw
    obtain ⟨-, p3, p4, p5⟩ := rowfacts (hw.heap ra)
    exact ⟨hw, p3, p4, p5⟩
  have A1 : Ab W W := Ab.refl W
  clear ra hW A0 R0
  go_region_held3 (fun w' => Ab W w' ∧ w'.cell? ⟨w.heap.size, 0, none⟩ = some (.float .f64 x) ∧ w'.cell? ⟨w.heap.size, 1, none⟩ = some (.float .f64 y) ∧ w'.cell? ⟨w.heap.size, 2, none⟩ = some (.float .f64 z)) ((refine KS.out _ ?_; (with_reducible (repeat (first | assumption | apply Ab.drew | apply Ab.drewN | (refine Ab.call ?_ (by assumption))))); done)) (first
    | (go_at_call 133; have hh := q2.out; refine (T2.out _).mono ?_; rintro e w3 ⟨r3, n3, rfl, rfl, q3⟩)
    | (go_at_call 133; have hh := q1.out; refine (T1.out _).mono ?_; rintro e w2 ⟨r2, n2, rfl, rfl, q2⟩)
    | (go_at_call 133; refine (T0.out _).mono ?_; rintro e w1 ⟨r1, n1, rfl, rfl, q1⟩)
    | (go_at_call 132; refine (TH.out _ _ _ _ q1.out q2.out q3.out).mono ?_; rintro e w4 ⟨rfl, b4⟩)
    | (go_at_call 131; refine (SQ.out _).mono ?_; rintro e w5 ⟨r5, n5, rfl, rfl, q5⟩)
    | (go_at_call 75; refine (CN.out _ _ q5.out).mono ?_; rintro e w6 ⟨rfl, rfl⟩))
  have A2 : Hid (Ab w w4) := Ab.call (Ab.drewN AW.out _) b4
  clear KS A1 b4
  go_wp2
  go_ret
  exact ⟨rfl, Ab.drewN A2.out _⟩
set_option maxHeartbeats 4000000 in
theorem gap_at (x y z u v t : Nat) (w : World) (hx : x < 18446744073709551616) (hy : y < 18446744073709551616) (hz : z < 18446744073709551616) (hu : u < 18446744073709551616) (hv : v < 18446744073709551616) (ht : t < 18446744073709551616) :
    Calls Tryz.prog 99 #[.agg #[.float .f64 x, .float .f64 y, .float .f64 z], .agg #[.float .f64 u, .float .f64 v, .float .f64 t]] w fun e w' => e = .returned (.float .f64 (lnB (sbB x u) (sbB y v) (sbB z t))) ∧ Below w.heap.size w w' := by
  have MI := hid (fun w => minus_at x y z u v t w hx hy hz hu hv ht)
  have LN := hid (fun w => length_at _ _ _ w (sbB_lt hx hu) (sbB_lt hy hv) (sbB_lt hz ht))
  have A0 := hid (bl2 w (.cells #[.float .f64 x, .float .f64 y, .float .f64 z] 131) (.cells #[.float .f64 u, .float .f64 v, .float .f64 t] 131))
  clear hx hy hz hu hv ht
  go_enter Tryz.func99, Tryz.ntmps99
  go_wp2_with fail
  refine (MI.out _).mono ?_
  rintro e w1 ⟨rfl, b1⟩
  go_wp2_with fail
  refine (LN.out _).mono ?_
  rintro e w2 ⟨rfl, b2⟩
  have A2 : Hid (Ab w w2) := (Ab.call A0.out b1).call b2
  clear b1 b2 A0
  go_wp2
  go_ret
  exact ⟨rfl, A2.out⟩
end Go.Proofs.YtbibhgikmnpbfaaGreatDoor

namespace Go.Proofs.YtbibhgikmnpbfaaGreatDoor
open Go.RowKit Tf
attribute [local go_sem] run_bits run_from raw_feq raw_fne raw_flt raw_fgt run_neg run_store_float
/-- is it a length by which a vector is divided? -/
def lvB (l : Nat) : Bool := fgt l 0 && !fgt l 9218868437227405311
def unB (l x : Nat) : Nat := if lvB l = true then dvB x l else 0
theorem unB_lt (l x : Nat) : unB l x < 18446744073709551616 := by
  unfold unB
  split
  · unfold dvB
    split
    · next r h => exact canon_lt (div_lt h)
    · decide
  · decide
set_option maxHeartbeats 1000000 in
theorem isInf_at (x : Nat) (w : World) :
    Calls Tryz.prog 173 #[.float .f64 x, .int .i64 1] w fun e w' => e = .returned (.bool (fgt x 9218868437227405311)) ∧ w' = w := by
  go_enter Tryz.func173, Tryz.ntmps173
  go_wp2
  go_ret
  exact ⟨rfl, rfl⟩
set_option maxHeartbeats 8000000 in
theorem unit_at (x y z : Nat) (w : World) (hx : x < 18446744073709551616) (hy : y < 18446744073709551616) (hz : z < 18446744073709551616) :
    Calls Tryz.prog 164 #[.agg #[.float .f64 x, .float .f64 y, .float .f64 z]] w fun e w' => e = .returned (.agg #[.float .f64 (unB (lnB x y z) x), .float .f64 (unB (lnB x y z) y), .float .f64 (unB (lnB x y z) z)]) ∧ Below w.heap.size w w' := by
  have LN := hid (fun w => length_at x y z w hx hy hz)
  obtain ⟨l, hl⟩ : ∃ l, lnB x y z = l := ⟨_, rfl⟩
  rw [hl]
  rw [hl] at LN
  have IF := hid (fun w => isInf_at l w)
  have A0 := hid (bl2 w (.cells #[.float .f64 x, .float .f64 y, .float .f64 z] 131) (.cells #[.float .f64 0, .float .f64 0, .float .f64 0] 131))
  have R0 := hid (And.intro (heap_alloc2_old w (.cells #[.float .f64 x, .float .f64 y, .float .f64 z] 131) (.cells #[.float .f64 0, .float .f64 0, .float .f64 0] 131)) (heap_alloc2_new w (.cells #[.float .f64 x, .float .f64 y, .float .f64 z] 131) (.cells #[.float .f64 0, .float .f64 0, .float .f64 0] 131)))
  clear hx hy hz hl
  obtain ⟨p1, hp1⟩ : ∃ p, fgt l 0 = p := ⟨_, rfl⟩
  obtain ⟨p2, hp2⟩ : ∃ p, fgt l 9218868437227405311 = p := ⟨_, rfl⟩
  rw [hp2] at IF
  cases p1 with
  | false =>
    have hu : ∀ k, unB l k = 0 := fun k => by simp [unB, lvB, hp1]
    rw [hu, hu, hu]
    clear hu
    go_enter Tryz.func164, Tryz.ntmps164
    go_wp2_with fail
    refine (LN.out _).mono ?_
    rintro e w1 ⟨rfl, b1⟩
    have r0 : w1.heap[w.heap.size + 1]? = some (.cells #[.float .f64 0, .float .f64 0, .float .f64 0] 131) := Ab.heap b1 R0.out.2
    have A1 : Hid (Ab w w1) := Ab.call A0.out b1
    obtain ⟨⟨o0, o1, o2⟩, o3, o4, o5⟩ := rowfacts r0
    have R1 := hid r0
    clear r0 b1 A0 R0
    go_wp2
    refine bodyPost_ret ?_ rfl ⟨rfl, ?_⟩
    · exact results_cell_row Tryz.results164 _ _ (w.heap.size + 1) _ _ (0, 0) _ rfl (row3 R1.out) Tryz.underlying131 rfl (by kernel_rfl)
    · exact ((Ab.setk A1.out (by omega) _).setk (by omega) _).setk (by omega) _
  | true =>
    cases p2 with
    | true =>
      have hu : ∀ k, unB l k = 0 := fun k => by simp [unB, lvB, hp2]
      rw [hu, hu, hu]
      clear hu hp2
      go_enter Tryz.func164, Tryz.ntmps164
      go_wp2_with fail
      refine (LN.out _).mono ?_
      rintro e w1 ⟨rfl, b1⟩
      have r0 : w1.heap[w.heap.size + 1]? = some (.cells #[.float .f64 0, .float .f64 0, .float .f64 0] 131) := Ab.heap b1 R0.out.2
      have A1 : Hid (Ab w w1) := Ab.call A0.out b1
      obtain ⟨⟨o0, o1, o2⟩, o3, o4, o5⟩ := rowfacts r0
      have R1 := hid r0
      clear r0 b1 A0 R0
      go_wp2_with fail
      refine (IF.out _).mono ?_
      rintro e w1 ⟨rfl, rfl⟩
      go_wp2
      refine bodyPost_ret ?_ rfl ⟨rfl, ?_⟩
      · exact results_cell_row Tryz.results164 _ _ (w.heap.size + 1) _ _ (0, 0) _ rfl (row3 R1.out) Tryz.underlying131 rfl (by kernel_rfl)
      · exact ((Ab.setk A1.out (by omega) _).setk (by omega) _).setk (by omega) _
    | false =>
      have hu : ∀ k, unB l k = dvB k l := fun k => by simp [unB, lvB, hp1, hp2]
      rw [hu, hu, hu]
      clear hu hp2
      go_enter Tryz.func164, Tryz.ntmps164
      go_wp2_with fail
      refine (LN.out _).mono ?_
      rintro e w1 ⟨rfl, b1⟩
      have r0 : w1.heap[w.heap.size + 1]? = some (.cells #[.float .f64 0, .float .f64 0, .float .f64 0] 131) := Ab.heap b1 R0.out.2
      have ra : w1.heap[w.heap.size]? = some (.cells #[.float .f64 x, .float .f64 y, .float .f64 z] 131) := Ab.heap b1 R0.out.1
      have A1 : Hid (Ab w w1) := Ab.call A0.out b1
      obtain ⟨-, a0, a1, a2⟩ := rowfacts ra
      have R1 := hid r0
      obtain ⟨r1, n1, k1, q1⟩ := div_any (P := Tryz.prog) w1 x l
      obtain ⟨r2, n2, k2, q2⟩ := div_any (P := Tryz.prog) (w1.drewN n1) y l
      obtain ⟨r3, n3, k3, q3⟩ := div_any (P := Tryz.prog) (w1.drewN (n1 + n2)) z l
      rw [World.drewN_drewN] at k2 k3
      have CN := hid (fun w => vcanon_at r1 r2 r3 _ _ _ w q1 q2 q3)
      clear r0 ra b1 A0 R0 q1 q2 q3
      go_wp2_with fail
      refine (IF.out _).mono ?_
      rintro e w1 ⟨rfl, rfl⟩
      go_wp2_with fail
      refine (CN.out _).mono ?_
      rintro e w4 ⟨rfl, b4⟩
      have A4 : Hid (Ab w w4) := Ab.call (Ab.drewN A1.out _) b4
      have r4 : w4.heap[w.heap.size + 1]? = some (.cells #[.float .f64 0, .float .f64 0, .float .f64 0] 131) := Ab.heap b4 R1.out
      obtain ⟨⟨o0, o1, o2⟩, o3, o4, o5⟩ := rowfacts r4
      have R4 := hid r4
      clear r4 b4 A1 R1 k1 k2 k3 a0 a1 a2
      go_wp2
      refine bodyPost_ret ?_ rfl ⟨rfl, ?_⟩
      · exact results_cell_row Tryz.results164 _ _ (w.heap.size + 1) _ _ (0, 0) _ rfl (row3 R4.out) Tryz.underlying131 rfl (by kernel_rfl)
      · exact ((Ab.setk A4.out (by omega) _).setk (by omega) _).setk (by omega) _
end Go.Proofs.YtbibhgikmnpbfaaGreatDoor
