/-
  The reference's order of floats and its sum of three: walks over the program.
-/
import Derived.Test.YtgfggfkmfhonbaaSd
import Derived.Test.YtgfggfkmfhonbaaTi
import Derived.Deep.RegionWith
namespace Go.Proofs.Ytgfggfkmfhonbaa
open Go.RowKit Tf
attribute [local go_sem] run_bits run_from raw_feq raw_fne raw_flt raw_fgt run_neg

set_option maxHeartbeats 1000000 in
set_option maxRecDepth 100000 in
theorem refOrder_any (a b : Nat) (w : World) (ha : a < 18446744073709551616) (hb : b < 18446744073709551616) :
    Calls Try.prog 65 #[.float .f64 a, .float .f64 b] w fun e w' => e = .returned (.int .i64 (orderB a b)) ∧ w' = w := by
  obtain ⟨o, ho⟩ : ∃ o, orderB a b = o := ⟨_, rfl⟩
  rw [ho]
  by_cases c : a = b
  · have h : o = 0 := by rw [← ho, c]; unfold orderB; rw [if_neg (by omega), if_neg (by omega)]
    have e : ((a : Int) == (b : Int)) = true := by simp; omega
    rw [h]
    clear h ho
    subst c
    go_enter Try.func65, Try.ntmps65
    go_wp2_with fail
    refine (rawBits_any _ _).mono ?_
    rintro e w' ⟨rfl, rfl⟩
    go_wp2_with fail
    refine (rawBits_any _ _).mono ?_
    rintro e w' ⟨rfl, rfl⟩
    go_wp2
    go_ret
    exact ⟨rfl, rfl⟩
  · have e : ((a : Int) == (b : Int)) = false := by simp; omega
    cases hna : ng a
    · have la := lt_of_ng hna
      cases hnb : ng b
      · have lb := lt_of_ng hnb
        by_cases c2 : a < b
        · have h : o = -1 := by rw [← ho]; unfold orderB placeB; rw [hna, hnb]; simp only [Bool.false_eq_true, if_false]; rw [if_pos (by omega)]
          rw [h]
          clear h ho
          go_enter Try.func65, Try.ntmps65
          go_wp2_with fail
          refine (rawBits_any a _).mono ?_
          rintro e w' ⟨rfl, rfl⟩
          go_wp2_with fail
          refine (rawBits_any b _).mono ?_
          rintro e w' ⟨rfl, rfl⟩
          go_wp2_with fail
          refine (refBelow_any a _).mono ?_
          rintro e w' ⟨rfl, rfl⟩
          go_wp2_with fail
          refine (refBelow_any a _).mono ?_
          rintro e w' ⟨rfl, rfl⟩
          go_wp2_with fail
          refine (refBelow_any b _).mono ?_
          rintro e w' ⟨rfl, rfl⟩
          go_wp2
          go_ret
          exact ⟨rfl, rfl⟩
        · have h : o = 1 := by rw [← ho]; unfold orderB placeB; rw [hna, hnb]; simp only [Bool.false_eq_true, if_false]; rw [if_neg (by omega), if_pos (by omega)]
          rw [h]
          clear h ho
          go_enter Try.func65, Try.ntmps65
          go_wp2_with fail
          refine (rawBits_any a _).mono ?_
          rintro e w' ⟨rfl, rfl⟩
          go_wp2_with fail
          refine (rawBits_any b _).mono ?_
          rintro e w' ⟨rfl, rfl⟩
          go_wp2_with fail
          refine (refBelow_any a _).mono ?_
          rintro e w' ⟨rfl, rfl⟩
          go_wp2_with fail
          refine (refBelow_any a _).mono ?_
          rintro e w' ⟨rfl, rfl⟩
          go_wp2_with fail
          refine (refBelow_any b _).mono ?_
          rintro e w' ⟨rfl, rfl⟩
          go_wp2
          go_ret
          exact ⟨rfl, rfl⟩
      · have lb := ge_of_ng hnb
        have h : o = 1 := by rw [← ho]; unfold orderB placeB; rw [hna, hnb]; simp only [Bool.false_eq_true, if_false, if_true]; rw [if_neg (by omega), if_pos (by omega)]
        rw [h]
        clear h ho
        go_enter Try.func65, Try.ntmps65
        go_wp2_with fail
        refine (rawBits_any a _).mono ?_
        rintro e w' ⟨rfl, rfl⟩
        go_wp2_with fail
        refine (rawBits_any b _).mono ?_
        rintro e w' ⟨rfl, rfl⟩
        go_wp2_with fail
        refine (refBelow_any a _).mono ?_
        rintro e w' ⟨rfl, rfl⟩
        go_wp2_with fail
        refine (refBelow_any a _).mono ?_
        rintro e w' ⟨rfl, rfl⟩
        go_wp2_with fail
        refine (refBelow_any b _).mono ?_
        rintro e w' ⟨rfl, rfl⟩
        go_wp2
        go_ret
        exact ⟨rfl, rfl⟩
    · have la := ge_of_ng hna
      cases hnb : ng b
      · have lb := lt_of_ng hnb
        have h : o = -1 := by rw [← ho]; unfold orderB placeB; rw [hna, hnb]; simp only [Bool.false_eq_true, if_false, if_true]; rw [if_pos (by omega)]
        rw [h]
        clear h ho
        go_enter Try.func65, Try.ntmps65
        go_wp2_with fail
        refine (rawBits_any a _).mono ?_
        rintro e w' ⟨rfl, rfl⟩
        go_wp2_with fail
        refine (rawBits_any b _).mono ?_
        rintro e w' ⟨rfl, rfl⟩
        go_wp2_with fail
        refine (refBelow_any a _).mono ?_
        rintro e w' ⟨rfl, rfl⟩
        go_wp2_with fail
        refine (refBelow_any b _).mono ?_
        rintro e w' ⟨rfl, rfl⟩
        go_wp2_with fail
        refine (refBelow_any a _).mono ?_
        rintro e w' ⟨rfl, rfl⟩
        go_wp2
        go_ret
        exact ⟨rfl, rfl⟩
      · have lb := ge_of_ng hnb
        by_cases c2 : b < a
        · have h : o = -1 := by rw [← ho]; unfold orderB placeB; rw [hna, hnb]; simp only [if_true]; rw [if_pos (by omega)]
          rw [h]
          clear h ho
          go_enter Try.func65, Try.ntmps65
          go_wp2_with fail
          refine (rawBits_any a _).mono ?_
          rintro e w' ⟨rfl, rfl⟩
          go_wp2_with fail
          refine (rawBits_any b _).mono ?_
          rintro e w' ⟨rfl, rfl⟩
          go_wp2_with fail
          refine (refBelow_any a _).mono ?_
          rintro e w' ⟨rfl, rfl⟩
          go_wp2_with fail
          refine (refBelow_any b _).mono ?_
          rintro e w' ⟨rfl, rfl⟩
          go_wp2
          go_ret
          exact ⟨rfl, rfl⟩
        · have h : o = 1 := by rw [← ho]; unfold orderB placeB; rw [hna, hnb]; simp only [if_true]; rw [if_neg (by omega), if_pos (by omega)]
          rw [h]
          clear h ho
          go_enter Try.func65, Try.ntmps65
          go_wp2_with fail
          refine (rawBits_any a _).mono ?_
          rintro e w' ⟨rfl, rfl⟩
          go_wp2_with fail
          refine (rawBits_any b _).mono ?_
          rintro e w' ⟨rfl, rfl⟩
          go_wp2_with fail
          refine (refBelow_any a _).mono ?_
          rintro e w' ⟨rfl, rfl⟩
          go_wp2_with fail
          refine (refBelow_any b _).mono ?_
          rintro e w' ⟨rfl, rfl⟩
          go_wp2
          go_ret
          exact ⟨rfl, rfl⟩

theorem refOrd_at (a b : Nat) (r : Int) (w : World) (ha : a < 18446744073709551616) (hb : b < 18446744073709551616) (hr : Hid (orderB a b = r)) :
    Calls Try.prog 65 #[.float .f64 a, .float .f64 b] w fun e w' => e = .returned (.int .i64 r) ∧ w' = w := by
  rw [← hr.out]; exact refOrder_any a b w ha hb
set_option maxHeartbeats 1000000 in
theorem quieted_at (x q : Nat) (w : World) (h : IsQ x q) :
    Calls Try.prog 61 #[.float .f64 x] w fun e w' => e = .returned (.float .f64 q) ∧ w' = w := by
  obtain ⟨h1, h2⟩ := h
  have C := hid (fun w => refNone_any x w)
  have D := hid refQuiet_any
  cases hN : isN x
  · rw [hN] at C
    rw [qB_of hN] at h2
    subst h2
    clear hN h1
    go_enter Try.func61, Try.ntmps61
    go_wp2_with fail
    refine (C.out _).mono ?_
    rintro e w' ⟨rfl, rfl⟩
    go_wp2
    go_ret
    exact ⟨rfl, rfl⟩
  · rw [hN] at C
    rw [qB_N hN] at h2
    subst h2
    clear hN h1
    go_enter Try.func61, Try.ntmps61
    go_wp2_with fail
    refine (C.out _).mono ?_
    rintro e w' ⟨rfl, rfl⟩
    go_wp2_with fail
    refine (D.out _).mono ?_
    rintro e w' ⟨rfl, rfl⟩
    go_wp2
    go_ret
    exact ⟨rfl, rfl⟩
set_option maxHeartbeats 1000000 in
theorem ahead_at (a b : Nat) (r : Bool) (w : World) (ha : a < 18446744073709551616) (hb : b < 18446744073709551616) (hr : decide (key a < key b) = r) :
    Calls Try.prog 60 #[.float .f64 a, .float .f64 b] w fun e w' => e = .returned (.bool r) ∧ w' = w := by
  have O2 := hid (fun w => refOrd_at a b _ w ha hb rfl)
  have hk := key_lt b a hb ha
  obtain ⟨m, hm⟩ : ∃ m, mg a = m := ⟨_, rfl⟩
  obtain ⟨n, hn⟩ : ∃ n, mg b = n := ⟨_, rfl⟩
  have A := hid (fun w => refMag_at a m w hm)
  have B := hid (fun w => refMag_at b n w hn)
  rw [hm, hn] at hk
  clear hm hn
  by_cases c1 : m < n
  · have e : r = true := by rw [← hr]; exact decide_eq_true (hk.2 (.inl c1))
    subst e
    have c1' : (m : Int) < n := by omega
    clear hk hr c1 ha hb O2
    go_enter Try.func60, Try.ntmps60
    go_wp2_with fail
    refine (A.out _).mono ?_
    rintro e w' ⟨rfl, rfl⟩
    go_wp2_with fail
    refine (B.out _).mono ?_
    rintro e w' ⟨rfl, rfl⟩
    go_wp2
    go_ret
    exact ⟨rfl, rfl⟩
  by_cases c2 : n < m
  · have e : r = false := by rw [← hr]; exact decide_eq_false (fun x => by have := hk.1 x; omega)
    subst e
    have c1' : (n : Int) < m := by omega
    have c3 : decide ((m : Int) < n) = false := decide_eq_false (by omega)
    have c4 : ((m : Int) == n) = false := by rw [beq_eq_false_iff_ne]; omega
    have c5 : decide (m < n) = false := decide_eq_false (by omega)
    clear hk hr c1 c2 ha hb O2
    go_enter Try.func60, Try.ntmps60
    go_wp2_with fail
    refine (A.out _).mono ?_
    rintro e w' ⟨rfl, rfl⟩
    go_wp2_with fail
    refine (B.out _).mono ?_
    rintro e w' ⟨rfl, rfl⟩
    go_wp2
    go_ret
    exact ⟨rfl, rfl⟩
  · obtain ⟨o, ho2⟩ : ∃ o, orderB a b = o := ⟨_, rfl⟩
    have e : decide (o < 0) = r := by
      rw [← hr, ← ho2]
      refine decide_eq_decide.2 ?_
      rw [orderB_lt, hk]
      constructor
      · intro h; exact .inr ⟨by omega, h⟩
      · rintro (h | h)
        · omega
        · exact h.2
    rw [ho2] at O2
    obtain rfl : m = n := by omega
    have c3 : decide ((m : Int) < m) = false := decide_eq_false (by omega)
    clear hk hr c1 c2 ha hb ho2
    go_enter Try.func60, Try.ntmps60
    go_wp2_with fail
    refine (A.out _).mono ?_
    rintro e w' ⟨rfl, rfl⟩
    go_wp2_with fail
    refine (B.out _).mono ?_
    rintro e w' ⟨rfl, rfl⟩
    go_wp2_with fail
    refine (O2.out _).mono ?_
    rintro e w' ⟨rfl, rfl⟩
    go_wp2
    go_ret
    exact ⟨by first | rfl | (rw [← e]; try rfl) | skip, rfl⟩
set_option maxHeartbeats 1000000 in
theorem rthree_000 (a b c q r s k m : Nat) (w : World)
    (A1 : Hid (∀ w, Calls Try.prog 60 #[.float .f64 b, .float .f64 a] w fun e w' => e = .returned (.bool false) ∧ w' = w))
    (A2 : Hid (∀ w, Calls Try.prog 60 #[.float .f64 c, .float .f64 b] w fun e w' => e = .returned (.bool false) ∧ w' = w))
    (A3 : Hid (∀ w, Calls Try.prog 60 #[.float .f64 b, .float .f64 a] w fun e w' => e = .returned (.bool false) ∧ w' = w))
    (h1 : ∀ t, (binOp .add t (.float .f64 a) (.float .f64 b)).run Try.prog w = .ok (.float .f64 r) (w.drewN k))
    (h2 : ∀ t, (binOp .add t (.float .f64 r) (.float .f64 c)).run Try.prog (w.drewN k) = .ok (.float .f64 s) ((w.drewN k).drewN m))
    (Q : Hid (∀ w, Calls Try.prog 61 #[.float .f64 s] w fun e w' => e = .returned (.float .f64 q) ∧ w' = w)) :
    Calls Try.prog 46 #[.float .f64 a, .float .f64 b, .float .f64 c] w fun e w' => e = .returned (.float .f64 q) ∧ ∃ k, w' = w.drewN k := by
  go_enter Try.func46, Try.ntmps46
  go_wp2_with fail
  refine (A1.out _).mono ?_
  rintro e w' ⟨rfl, rfl⟩
  go_wp2_with fail
  refine (A2.out _).mono ?_
  rintro e w' ⟨rfl, rfl⟩
  go_wp2_with fail
  refine (A3.out _).mono ?_
  rintro e w' ⟨rfl, rfl⟩
  go_wp2_with fail
  refine (Q.out _).mono ?_
  rintro e w' ⟨rfl, rfl⟩
  go_wp2
  go_ret
  exact ⟨rfl, _, rfl⟩
set_option maxHeartbeats 1000000 in
theorem rthree_001 (a b c q r s k m : Nat) (w : World)
    (A1 : Hid (∀ w, Calls Try.prog 60 #[.float .f64 b, .float .f64 a] w fun e w' => e = .returned (.bool false) ∧ w' = w))
    (A2 : Hid (∀ w, Calls Try.prog 60 #[.float .f64 c, .float .f64 b] w fun e w' => e = .returned (.bool false) ∧ w' = w))
    (A3 : Hid (∀ w, Calls Try.prog 60 #[.float .f64 b, .float .f64 a] w fun e w' => e = .returned (.bool true) ∧ w' = w))
    (h1 : ∀ t, (binOp .add t (.float .f64 b) (.float .f64 a)).run Try.prog w = .ok (.float .f64 r) (w.drewN k))
    (h2 : ∀ t, (binOp .add t (.float .f64 r) (.float .f64 c)).run Try.prog (w.drewN k) = .ok (.float .f64 s) ((w.drewN k).drewN m))
    (Q : Hid (∀ w, Calls Try.prog 61 #[.float .f64 s] w fun e w' => e = .returned (.float .f64 q) ∧ w' = w)) :
    Calls Try.prog 46 #[.float .f64 a, .float .f64 b, .float .f64 c] w fun e w' => e = .returned (.float .f64 q) ∧ ∃ k, w' = w.drewN k := by
  go_enter Try.func46, Try.ntmps46
  go_wp2_with fail
  refine (A1.out _).mono ?_
  rintro e w' ⟨rfl, rfl⟩
  go_wp2_with fail
  refine (A2.out _).mono ?_
  rintro e w' ⟨rfl, rfl⟩
  go_wp2_with fail
  refine (A3.out _).mono ?_
  rintro e w' ⟨rfl, rfl⟩
  go_wp2_with fail
  refine (Q.out _).mono ?_
  rintro e w' ⟨rfl, rfl⟩
  go_wp2
  go_ret
  exact ⟨rfl, _, rfl⟩
set_option maxHeartbeats 1000000 in
theorem rthree_010 (a b c q r s k m : Nat) (w : World)
    (A1 : Hid (∀ w, Calls Try.prog 60 #[.float .f64 b, .float .f64 a] w fun e w' => e = .returned (.bool false) ∧ w' = w))
    (A2 : Hid (∀ w, Calls Try.prog 60 #[.float .f64 c, .float .f64 b] w fun e w' => e = .returned (.bool true) ∧ w' = w))
    (A3 : Hid (∀ w, Calls Try.prog 60 #[.float .f64 c, .float .f64 a] w fun e w' => e = .returned (.bool false) ∧ w' = w))
    (h1 : ∀ t, (binOp .add t (.float .f64 a) (.float .f64 c)).run Try.prog w = .ok (.float .f64 r) (w.drewN k))
    (h2 : ∀ t, (binOp .add t (.float .f64 r) (.float .f64 b)).run Try.prog (w.drewN k) = .ok (.float .f64 s) ((w.drewN k).drewN m))
    (Q : Hid (∀ w, Calls Try.prog 61 #[.float .f64 s] w fun e w' => e = .returned (.float .f64 q) ∧ w' = w)) :
    Calls Try.prog 46 #[.float .f64 a, .float .f64 b, .float .f64 c] w fun e w' => e = .returned (.float .f64 q) ∧ ∃ k, w' = w.drewN k := by
  go_enter Try.func46, Try.ntmps46
  go_wp2_with fail
  refine (A1.out _).mono ?_
  rintro e w' ⟨rfl, rfl⟩
  go_wp2_with fail
  refine (A2.out _).mono ?_
  rintro e w' ⟨rfl, rfl⟩
  go_wp2_with fail
  refine (A3.out _).mono ?_
  rintro e w' ⟨rfl, rfl⟩
  go_wp2_with fail
  refine (Q.out _).mono ?_
  rintro e w' ⟨rfl, rfl⟩
  go_wp2
  go_ret
  exact ⟨rfl, _, rfl⟩
set_option maxHeartbeats 1000000 in
theorem rthree_011 (a b c q r s k m : Nat) (w : World)
    (A1 : Hid (∀ w, Calls Try.prog 60 #[.float .f64 b, .float .f64 a] w fun e w' => e = .returned (.bool false) ∧ w' = w))
    (A2 : Hid (∀ w, Calls Try.prog 60 #[.float .f64 c, .float .f64 b] w fun e w' => e = .returned (.bool true) ∧ w' = w))
    (A3 : Hid (∀ w, Calls Try.prog 60 #[.float .f64 c, .float .f64 a] w fun e w' => e = .returned (.bool true) ∧ w' = w))
    (h1 : ∀ t, (binOp .add t (.float .f64 c) (.float .f64 a)).run Try.prog w = .ok (.float .f64 r) (w.drewN k))
    (h2 : ∀ t, (binOp .add t (.float .f64 r) (.float .f64 b)).run Try.prog (w.drewN k) = .ok (.float .f64 s) ((w.drewN k).drewN m))
    (Q : Hid (∀ w, Calls Try.prog 61 #[.float .f64 s] w fun e w' => e = .returned (.float .f64 q) ∧ w' = w)) :
    Calls Try.prog 46 #[.float .f64 a, .float .f64 b, .float .f64 c] w fun e w' => e = .returned (.float .f64 q) ∧ ∃ k, w' = w.drewN k := by
  go_enter Try.func46, Try.ntmps46
  go_wp2_with fail
  refine (A1.out _).mono ?_
  rintro e w' ⟨rfl, rfl⟩
  go_wp2_with fail
  refine (A2.out _).mono ?_
  rintro e w' ⟨rfl, rfl⟩
  go_wp2_with fail
  refine (A3.out _).mono ?_
  rintro e w' ⟨rfl, rfl⟩
  go_wp2_with fail
  refine (Q.out _).mono ?_
  rintro e w' ⟨rfl, rfl⟩
  go_wp2
  go_ret
  exact ⟨rfl, _, rfl⟩
set_option maxHeartbeats 1000000 in
theorem rthree_100 (a b c q r s k m : Nat) (w : World)
    (A1 : Hid (∀ w, Calls Try.prog 60 #[.float .f64 b, .float .f64 a] w fun e w' => e = .returned (.bool true) ∧ w' = w))
    (A2 : Hid (∀ w, Calls Try.prog 60 #[.float .f64 c, .float .f64 a] w fun e w' => e = .returned (.bool false) ∧ w' = w))
    (A3 : Hid (∀ w, Calls Try.prog 60 #[.float .f64 a, .float .f64 b] w fun e w' => e = .returned (.bool false) ∧ w' = w))
    (h1 : ∀ t, (binOp .add t (.float .f64 b) (.float .f64 a)).run Try.prog w = .ok (.float .f64 r) (w.drewN k))
    (h2 : ∀ t, (binOp .add t (.float .f64 r) (.float .f64 c)).run Try.prog (w.drewN k) = .ok (.float .f64 s) ((w.drewN k).drewN m))
    (Q : Hid (∀ w, Calls Try.prog 61 #[.float .f64 s] w fun e w' => e = .returned (.float .f64 q) ∧ w' = w)) :
    Calls Try.prog 46 #[.float .f64 a, .float .f64 b, .float .f64 c] w fun e w' => e = .returned (.float .f64 q) ∧ ∃ k, w' = w.drewN k := by
  go_enter Try.func46, Try.ntmps46
  go_wp2_with fail
  refine (A1.out _).mono ?_
  rintro e w' ⟨rfl, rfl⟩
  go_wp2_with fail
  refine (A2.out _).mono ?_
  rintro e w' ⟨rfl, rfl⟩
  go_wp2_with fail
  refine (A3.out _).mono ?_
  rintro e w' ⟨rfl, rfl⟩
  go_wp2_with fail
  refine (Q.out _).mono ?_
  rintro e w' ⟨rfl, rfl⟩
  go_wp2
  go_ret
  exact ⟨rfl, _, rfl⟩
set_option maxHeartbeats 1000000 in
theorem rthree_101 (a b c q r s k m : Nat) (w : World)
    (A1 : Hid (∀ w, Calls Try.prog 60 #[.float .f64 b, .float .f64 a] w fun e w' => e = .returned (.bool true) ∧ w' = w))
    (A2 : Hid (∀ w, Calls Try.prog 60 #[.float .f64 c, .float .f64 a] w fun e w' => e = .returned (.bool false) ∧ w' = w))
    (A3 : Hid (∀ w, Calls Try.prog 60 #[.float .f64 a, .float .f64 b] w fun e w' => e = .returned (.bool true) ∧ w' = w))
    (h1 : ∀ t, (binOp .add t (.float .f64 a) (.float .f64 b)).run Try.prog w = .ok (.float .f64 r) (w.drewN k))
    (h2 : ∀ t, (binOp .add t (.float .f64 r) (.float .f64 c)).run Try.prog (w.drewN k) = .ok (.float .f64 s) ((w.drewN k).drewN m))
    (Q : Hid (∀ w, Calls Try.prog 61 #[.float .f64 s] w fun e w' => e = .returned (.float .f64 q) ∧ w' = w)) :
    Calls Try.prog 46 #[.float .f64 a, .float .f64 b, .float .f64 c] w fun e w' => e = .returned (.float .f64 q) ∧ ∃ k, w' = w.drewN k := by
  go_enter Try.func46, Try.ntmps46
  go_wp2_with fail
  refine (A1.out _).mono ?_
  rintro e w' ⟨rfl, rfl⟩
  go_wp2_with fail
  refine (A2.out _).mono ?_
  rintro e w' ⟨rfl, rfl⟩
  go_wp2_with fail
  refine (A3.out _).mono ?_
  rintro e w' ⟨rfl, rfl⟩
  go_wp2_with fail
  refine (Q.out _).mono ?_
  rintro e w' ⟨rfl, rfl⟩
  go_wp2
  go_ret
  exact ⟨rfl, _, rfl⟩
set_option maxHeartbeats 1000000 in
theorem rthree_110 (a b c q r s k m : Nat) (w : World)
    (A1 : Hid (∀ w, Calls Try.prog 60 #[.float .f64 b, .float .f64 a] w fun e w' => e = .returned (.bool true) ∧ w' = w))
    (A2 : Hid (∀ w, Calls Try.prog 60 #[.float .f64 c, .float .f64 a] w fun e w' => e = .returned (.bool true) ∧ w' = w))
    (A3 : Hid (∀ w, Calls Try.prog 60 #[.float .f64 c, .float .f64 b] w fun e w' => e = .returned (.bool false) ∧ w' = w))
    (h1 : ∀ t, (binOp .add t (.float .f64 b) (.float .f64 c)).run Try.prog w = .ok (.float .f64 r) (w.drewN k))
    (h2 : ∀ t, (binOp .add t (.float .f64 r) (.float .f64 a)).run Try.prog (w.drewN k) = .ok (.float .f64 s) ((w.drewN k).drewN m))
    (Q : Hid (∀ w, Calls Try.prog 61 #[.float .f64 s] w fun e w' => e = .returned (.float .f64 q) ∧ w' = w)) :
    Calls Try.prog 46 #[.float .f64 a, .float .f64 b, .float .f64 c] w fun e w' => e = .returned (.float .f64 q) ∧ ∃ k, w' = w.drewN k := by
  go_enter Try.func46, Try.ntmps46
  go_wp2_with fail
  refine (A1.out _).mono ?_
  rintro e w' ⟨rfl, rfl⟩
  go_wp2_with fail
  refine (A2.out _).mono ?_
  rintro e w' ⟨rfl, rfl⟩
  go_wp2_with fail
  refine (A3.out _).mono ?_
  rintro e w' ⟨rfl, rfl⟩
  go_wp2_with fail
  refine (Q.out _).mono ?_
  rintro e w' ⟨rfl, rfl⟩
  go_wp2
  go_ret
  exact ⟨rfl, _, rfl⟩
set_option maxHeartbeats 1000000 in
theorem rthree_111 (a b c q r s k m : Nat) (w : World)
    (A1 : Hid (∀ w, Calls Try.prog 60 #[.float .f64 b, .float .f64 a] w fun e w' => e = .returned (.bool true) ∧ w' = w))
    (A2 : Hid (∀ w, Calls Try.prog 60 #[.float .f64 c, .float .f64 a] w fun e w' => e = .returned (.bool true) ∧ w' = w))
    (A3 : Hid (∀ w, Calls Try.prog 60 #[.float .f64 c, .float .f64 b] w fun e w' => e = .returned (.bool true) ∧ w' = w))
    (h1 : ∀ t, (binOp .add t (.float .f64 c) (.float .f64 b)).run Try.prog w = .ok (.float .f64 r) (w.drewN k))
    (h2 : ∀ t, (binOp .add t (.float .f64 r) (.float .f64 a)).run Try.prog (w.drewN k) = .ok (.float .f64 s) ((w.drewN k).drewN m))
    (Q : Hid (∀ w, Calls Try.prog 61 #[.float .f64 s] w fun e w' => e = .returned (.float .f64 q) ∧ w' = w)) :
    Calls Try.prog 46 #[.float .f64 a, .float .f64 b, .float .f64 c] w fun e w' => e = .returned (.float .f64 q) ∧ ∃ k, w' = w.drewN k := by
  go_enter Try.func46, Try.ntmps46
  go_wp2_with fail
  refine (A1.out _).mono ?_
  rintro e w' ⟨rfl, rfl⟩
  go_wp2_with fail
  refine (A2.out _).mono ?_
  rintro e w' ⟨rfl, rfl⟩
  go_wp2_with fail
  refine (A3.out _).mono ?_
  rintro e w' ⟨rfl, rfl⟩
  go_wp2_with fail
  refine (Q.out _).mono ?_
  rintro e w' ⟨rfl, rfl⟩
  go_wp2
  go_ret
  exact ⟨rfl, _, rfl⟩
/-- THREE, the reference's -/
theorem rthree_at (a b c : Nat) (w : World) (ha : a < 18446744073709551616) (hb : b < 18446744073709551616) (hc : c < 18446744073709551616) :
    Calls Try.prog 46 #[.float .f64 a, .float .f64 b, .float .f64 c] w fun e w' => e = .returned (.float .f64 (thB a b c)) ∧ ∃ k, w' = w.drewN k := by
  have fin : ∀ u v z, u < 18446744073709551616 → v < 18446744073709551616 → z < 18446744073709551616 → ∃ r s k m : Nat, (∀ t, (binOp .add t (.float .f64 u) (.float .f64 v)).run Try.prog w = .ok (.float .f64 r) (w.drewN k)) ∧ (∀ t, (binOp .add t (.float .f64 r) (.float .f64 z)).run Try.prog (w.drewN k) = .ok (.float .f64 s) ((w.drewN k).drewN m)) ∧ Hid (∀ w, Calls Try.prog 61 #[.float .f64 s] w fun e w' => e = .returned (.float .f64 (plB (plB u v) z)) ∧ w' = w) := by
    intro u v z hu hv hz
    obtain ⟨r, k, h1, q1⟩ := add_any (P := Try.prog) w u _ v _ (IsQ.self hu) (IsQ.self hv)
    obtain ⟨s, m, h2, q2⟩ := add_any (P := Try.prog) (w.drewN k) r _ z _ q1 (IsQ.self hz)
    rw [plB_ql, plB_qr, plB_qr] at q2
    exact ⟨r, s, k, m, h1, h2, fun w => quieted_at s _ w q2⟩
  unfold thB
  by_cases k1 : key b < key a
  · have lk1 : loB a b = b := by unfold loB; rw [if_pos k1]
    have gk1 : hiB a b = a := by unfold hiB; rw [if_pos k1]
    rw [lk1, gk1]
    by_cases k2 : key c < key a
    · have lk2 : loB a c = c := by unfold loB; rw [if_pos k2]
      have gk2 : hiB a c = a := by unfold hiB; rw [if_pos k2]
      rw [lk2, gk2]
      by_cases k3 : key c < key b
      · have lk3 : loB b c = c := by unfold loB; rw [if_pos k3]
        have gk3 : hiB b c = b := by unfold hiB; rw [if_pos k3]
        rw [lk3, gk3]
        obtain ⟨r, s, k, m, h1, h2, hq⟩ := fin c b a hc hb ha
        exact rthree_111 a b c _ r s k m w (fun w => ahead_at b a _ w hb ha (decide_eq_true k1)) (fun w => ahead_at c a _ w hc ha (decide_eq_true k2)) (fun w => ahead_at c b _ w hc hb (decide_eq_true k3)) h1 h2 hq
      · have lk3 : loB b c = b := by unfold loB; rw [if_neg k3]
        have gk3 : hiB b c = c := by unfold hiB; rw [if_neg k3]
        rw [lk3, gk3]
        obtain ⟨r, s, k, m, h1, h2, hq⟩ := fin b c a hb hc ha
        exact rthree_110 a b c _ r s k m w (fun w => ahead_at b a _ w hb ha (decide_eq_true k1)) (fun w => ahead_at c a _ w hc ha (decide_eq_true k2)) (fun w => ahead_at c b _ w hc hb (decide_eq_false k3)) h1 h2 hq
    · have lk2 : loB a c = a := by unfold loB; rw [if_neg k2]
      have gk2 : hiB a c = c := by unfold hiB; rw [if_neg k2]
      rw [lk2, gk2]
      by_cases k3 : key a < key b
      · have lk3 : loB b a = a := by unfold loB; rw [if_pos k3]
        have gk3 : hiB b a = b := by unfold hiB; rw [if_pos k3]
        rw [lk3, gk3]
        obtain ⟨r, s, k, m, h1, h2, hq⟩ := fin a b c ha hb hc
        exact rthree_101 a b c _ r s k m w (fun w => ahead_at b a _ w hb ha (decide_eq_true k1)) (fun w => ahead_at c a _ w hc ha (decide_eq_false k2)) (fun w => ahead_at a b _ w ha hb (decide_eq_true k3)) h1 h2 hq
      · have lk3 : loB b a = b := by unfold loB; rw [if_neg k3]
        have gk3 : hiB b a = a := by unfold hiB; rw [if_neg k3]
        rw [lk3, gk3]
        obtain ⟨r, s, k, m, h1, h2, hq⟩ := fin b a c hb ha hc
        exact rthree_100 a b c _ r s k m w (fun w => ahead_at b a _ w hb ha (decide_eq_true k1)) (fun w => ahead_at c a _ w hc ha (decide_eq_false k2)) (fun w => ahead_at a b _ w ha hb (decide_eq_false k3)) h1 h2 hq
  · have lk1 : loB a b = a := by unfold loB; rw [if_neg k1]
    have gk1 : hiB a b = b := by unfold hiB; rw [if_neg k1]
    rw [lk1, gk1]
    by_cases k2 : key c < key b
    · have lk2 : loB b c = c := by unfold loB; rw [if_pos k2]
      have gk2 : hiB b c = b := by unfold hiB; rw [if_pos k2]
      rw [lk2, gk2]
      by_cases k3 : key c < key a
      · have lk3 : loB a c = c := by unfold loB; rw [if_pos k3]
        have gk3 : hiB a c = a := by unfold hiB; rw [if_pos k3]
        rw [lk3, gk3]
        obtain ⟨r, s, k, m, h1, h2, hq⟩ := fin c a b hc ha hb
        exact rthree_011 a b c _ r s k m w (fun w => ahead_at b a _ w hb ha (decide_eq_false k1)) (fun w => ahead_at c b _ w hc hb (decide_eq_true k2)) (fun w => ahead_at c a _ w hc ha (decide_eq_true k3)) h1 h2 hq
      · have lk3 : loB a c = a := by unfold loB; rw [if_neg k3]
        have gk3 : hiB a c = c := by unfold hiB; rw [if_neg k3]
        rw [lk3, gk3]
        obtain ⟨r, s, k, m, h1, h2, hq⟩ := fin a c b ha hc hb
        exact rthree_010 a b c _ r s k m w (fun w => ahead_at b a _ w hb ha (decide_eq_false k1)) (fun w => ahead_at c b _ w hc hb (decide_eq_true k2)) (fun w => ahead_at c a _ w hc ha (decide_eq_false k3)) h1 h2 hq
    · have lk2 : loB b c = b := by unfold loB; rw [if_neg k2]
      have gk2 : hiB b c = c := by unfold hiB; rw [if_neg k2]
      rw [lk2, gk2]
      by_cases k3 : key b < key a
      · have lk3 : loB a b = b := by unfold loB; rw [if_pos k3]
        have gk3 : hiB a b = a := by unfold hiB; rw [if_pos k3]
        rw [lk3, gk3]
        obtain ⟨r, s, k, m, h1, h2, hq⟩ := fin b a c hb ha hc
        exact rthree_001 a b c _ r s k m w (fun w => ahead_at b a _ w hb ha (decide_eq_false k1)) (fun w => ahead_at c b _ w hc hb (decide_eq_false k2)) (fun w => ahead_at b a _ w hb ha (decide_eq_true k3)) h1 h2 hq
      · have lk3 : loB a b = a := by unfold loB; rw [if_neg k3]
        have gk3 : hiB a b = b := by unfold hiB; rw [if_neg k3]
        rw [lk3, gk3]
        obtain ⟨r, s, k, m, h1, h2, hq⟩ := fin a b c ha hb hc
        exact rthree_000 a b c _ r s k m w (fun w => ahead_at b a _ w hb ha (decide_eq_false k1)) (fun w => ahead_at c b _ w hc hb (decide_eq_false k2)) (fun w => ahead_at b a _ w hb ha (decide_eq_false k3)) h1 h2 hq
end Go.Proofs.Ytgfggfkmfhonbaa
