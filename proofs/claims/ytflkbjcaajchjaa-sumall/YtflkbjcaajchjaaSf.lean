/-
  The reference's sums by pairs and of three: walks over the program.
-/
import Derived.Test.YtflkbjcaajchjaaSe
namespace Go.Proofs.Ytflkbjcaajchjaa
open Go.RowKit Tf
attribute [local go_sem] run_bits run_from raw_feq raw_fne raw_flt raw_fgt run_neg

set_option maxHeartbeats 1000000 in
theorem rpairs_none (a0 : Option Addr) (cap : Nat) (w : World) :
    Calls Try.prog 26 #[.slice a0 0 cap] w fun e w' => e = .returned (.float .f64 0) ∧ w' = w := by
  go_enter Try.func26, Try.ntmps26
  go_wp2_with fail
  refine (nought_at _).mono ?_
  rintro e w' ⟨rfl, rfl⟩
  go_wp2
  go_ret
  exact ⟨rfl, rfl⟩
set_option maxHeartbeats 1000000 in
theorem rpairs_one (b o cap x : Nat) (w : World) (h0 : w.cell? ⟨b, o, none⟩ = some (.float .f64 x)) :
    Calls Try.prog 26 #[.slice (some ⟨b, o, none⟩) 1 cap] w fun e w' => e = .returned (.float .f64 x) ∧ w' = w := by
  go_enter Try.func26, Try.ntmps26
  go_wp2
  go_ret
  exact ⟨rfl, rfl⟩
set_option maxHeartbeats 4000000 in
theorem rpairs_go (b o len cap h p q : Nat) (w : World) (hcap : (len : Int) ≤ cap) (_hl : (cap : Int) ≤ 9223372036854775807) (hlen : (len : Int) ≤ 17592186044416) (h3 : (2 : Int) ≤ len) (hh : ((len : Int) + 1) / 2 = (h : Nat)) (h1 : (h : Int) < len) (hc : ¬ cap = h) (hc0 : ¬ cap = 0)
    (P1 : Hid (∀ j, Calls Try.prog 26 #[.slice (some ⟨b, o, none⟩) h cap] (w.drewN j) fun e w' => ∃ s k : Nat, e = .returned (.float .f64 s) ∧ w' = w.drewN k ∧ Hid (IsQ s p)))
    (P2 : Hid (∀ j, Calls Try.prog 26 #[.slice (some ⟨b, o + h, none⟩) (len - h) (cap - h)] (w.drewN j) fun e w' => ∃ s k : Nat, e = .returned (.float .f64 s) ∧ w' = w.drewN k ∧ Hid (IsQ s q))) :
    Calls Try.prog 26 #[.slice (some ⟨b, o, none⟩) len cap] w fun e w' => ∃ s k : Nat, e = .returned (.float .f64 s) ∧ w' = w.drewN k ∧ Hid (IsQ s (plB p q)) := by
  go_enter Try.func26, Try.ntmps26
  go_wp2
  go_region_with (first
    | (go_at_call 26; have hb := q1.out; refine (P2.out _).mono ?_; clear hb; rintro e w2 ⟨s2, k2, rfl, rfl, q2⟩; have ⟨r, m, hr, hrq⟩ := add_any (P := Try.prog) (w.drewN k2) s1 _ s2 _ q1.out q2.out; have HQ := hid hrq; clear hrq)
    | (go_at_call 26; refine (P1.out 1).mono ?_; rintro e w1 ⟨s1, k1, rfl, rfl, q1⟩))
  all_goals go_wp2
  all_goals go_ret
  all_goals exact ⟨_, _, rfl, rfl, HQ⟩
theorem rpairs_in : ∀ (len : Nat) (a0 : Option Addr) (cap : Nat) (xs : Nat → Nat) (w : World), len ≤ cap → (cap : Int) ≤ 9223372036854775807 → (len : Int) ≤ 17592186044416 → IsFl w a0 len xs →
    Calls Try.prog 26 #[.slice a0 len cap] w fun e w' => ∃ s k : Nat, e = .returned (.float .f64 s) ∧ w' = w.drewN k ∧ Hid (IsQ s (prB xs 0 len)) := by
  intro len
  induction len using Nat.strongRecOn with
  | ind len ih =>
    intro a0 cap xs w hcap hl hlen h
    by_cases h0 : len = 0
    · subst h0
      rw [prB_zero]
      exact (rpairs_none a0 cap w).mono fun e w' ⟨he, hw⟩ => ⟨0, 0, he, hw, by decide, by decide⟩
    obtain ⟨x1, b, o, rfl, _, x3⟩ := h 0 (by omega)
    by_cases h1 : len = 1
    · subst h1
      rw [prB_one]
      exact (rpairs_one b o cap (xs 0) w x3).mono fun e w' ⟨he, hw⟩ => ⟨xs 0, 0, he, hw, IsQ.self x1⟩
    · obtain ⟨m, hm⟩ : ∃ m, (len + 1) / 2 = m := ⟨_, rfl⟩
      have e1 : prB xs 0 len = plB (prB xs 0 m) (prB (fun j => xs (m + j)) 0 (len - m)) := by
        rw [prB_more xs 0 len (by omega), hm, Nat.zero_add]
        congr 1
        exact prB_congr _ _ _ _ _ (fun j _ => by rw [Nat.zero_add])
      rw [e1]
      have hj : ∀ j, IsFl (w.drewN j) (some ⟨b, o, none⟩) len xs := fun j => h.below (below_drewN (Below.refl _ _) j)
      refine rpairs_go b o len cap m (prB xs 0 m) (prB (fun j => xs (m + j)) 0 (len - m)) w (by omega) hl hlen (by omega) (by omega) (by omega) (by omega) (by omega) ?_ ?_
      · intro j
        refine (ih m (by omega) (some ⟨b, o, none⟩) cap xs (w.drewN j) (by omega) hl (by omega) (fun k hk => hj j k (by omega))).mono ?_
        rintro e w' ⟨s, k, he, hw, hq⟩
        exact ⟨s, j + k, he, by rw [hw]; simp, hq⟩
      · intro j
        refine (ih (len - m) (by omega) (some ⟨b, o + m, none⟩) (cap - m) (fun j => xs (m + j)) (w.drewN j) (by omega) (by omega) (by omega) (fun k hk => ?_)).mono ?_
        · obtain ⟨k1, b', o', k2, k3, k4⟩ := hj j (m + k) (by omega)
          cases k2
          exact ⟨k1, b, o + m, rfl, k3, by rw [Nat.add_assoc]; exact k4⟩
        · rintro e w' ⟨s, k, he, hw, hq⟩
          exact ⟨s, j + k, he, by rw [hw]; simp, hq⟩
set_option maxHeartbeats 1000000 in
theorem rpairs_at (a0 : Option Addr) (len cap : Nat) (xs : Nat → Nat) (w : World) (hcap : len ≤ cap) (hl : (cap : Int) ≤ 9223372036854775807) (hlen : (len : Int) ≤ 17592186044416) (h : IsFl w a0 len xs) :
    Calls Try.prog 14 #[.slice a0 len cap] w fun e w' => e = .returned (.float .f64 (prB xs 0 len)) ∧ ∃ k, w' = w.drewN k := by
  have P := hid (rpairs_in len a0 cap xs w hcap hl hlen h)
  have C := hid (fun x q w => quieted_at x q w)
  clear h hcap hl hlen
  go_enter Try.func14, Try.ntmps14
  go_wp2_with fail
  refine P.out.mono ?_
  rintro e w' ⟨s, k, rfl, rfl, hq⟩
  have C' := hid (fun w => C.out s _ w hq.out)
  clear C hq P
  go_wp2_with fail
  refine (C'.out _).mono ?_
  rintro e w' ⟨rfl, rfl⟩
  go_wp2
  go_ret
  exact ⟨rfl, _, rfl⟩
set_option maxHeartbeats 1000000 in
theorem ahead_at (a b : Nat) (r : Bool) (w : World) (ha : a < 18446744073709551616) (hb : b < 18446744073709551616) (hr : decide (key a < key b) = r) :
    Calls Try.prog 31 #[.float .f64 a, .float .f64 b] w fun e w' => e = .returned (.bool r) ∧ w' = w := by
  have O2 := hid (fun w => refOrd_at a b _ w ha hb rfl)
  have hk := key_lt b a hb ha
  obtain ⟨m, hm⟩ : ∃ m, mg a = m := ⟨_, rfl⟩
  obtain ⟨n, hn⟩ : ∃ n, mg b = n := ⟨_, rfl⟩
  have A := hid (fun w => refMag_at a m w hm)
  have B := hid (fun w => refMag_at b n w hn)
  rw [hm, hn] at hk
  clear hm hn
  by_cases c1 : m < n
  · have e : r = true := by rw [← hr]; exact decide_eq_true (hk.2 (.inl c1))
    subst e
    have c1' : (m : Int) < n := by omega
    clear hk hr c1 ha hb O2
    go_enter Try.func31, Try.ntmps31
    go_wp2_with fail
    refine (A.out _).mono ?_
    rintro e w' ⟨rfl, rfl⟩
    go_wp2_with fail
    refine (B.out _).mono ?_
    rintro e w' ⟨rfl, rfl⟩
    go_wp2
    go_ret
    exact ⟨rfl, rfl⟩
  by_cases c2 : n < m
  · have e : r = false := by rw [← hr]; exact decide_eq_false (fun x => by have := hk.1 x; omega)
    subst e
    have c1' : (n : Int) < m := by omega
    have c3 : decide ((m : Int) < n) = false := decide_eq_false (by omega)
    have c4 : ((m : Int) == n) = false := by rw [beq_eq_false_iff_ne]; omega
    have c5 : decide (m < n) = false := decide_eq_false (by omega)
    clear hk hr c1 c2 ha hb O2
    go_enter Try.func31, Try.ntmps31
    go_wp2_with fail
    refine (A.out _).mono ?_
    rintro e w' ⟨rfl, rfl⟩
    go_wp2_with fail
    refine (B.out _).mono ?_
    rintro e w' ⟨rfl, rfl⟩
    go_wp2
    go_ret
    exact ⟨rfl, rfl⟩
  · obtain ⟨o, ho2⟩ : ∃ o, orderB a b = o := ⟨_, rfl⟩
    have e : decide (o < 0) = r := by
      rw [← hr, ← ho2]
      refine decide_eq_decide.2 ?_
      rw [orderB_lt, hk]
      constructor
      · intro h; exact .inr ⟨by omega, h⟩
      · rintro (h | h)
        · omega
        · exact h.2
    rw [ho2] at O2
    obtain rfl : m = n := by omega
    have c3 : decide ((m : Int) < m) = false := decide_eq_false (by omega)
    clear hk hr c1 c2 ha hb ho2
    go_enter Try.func31, Try.ntmps31
    go_wp2_with fail
    refine (A.out _).mono ?_
    rintro e w' ⟨rfl, rfl⟩
    go_wp2_with fail
    refine (B.out _).mono ?_
    rintro e w' ⟨rfl, rfl⟩
    go_wp2_with fail
    refine (O2.out _).mono ?_
    rintro e w' ⟨rfl, rfl⟩
    go_wp2
    go_ret
    exact ⟨by first | rfl | (rw [← e]; try rfl) | skip, rfl⟩
set_option maxHeartbeats 1000000 in
theorem rthree_000 (a b c q r s k m : Nat) (w : World)
    (A1 : Hid (∀ w, Calls Try.prog 31 #[.float .f64 b, .float .f64 a] w fun e w' => e = .returned (.bool false) ∧ w' = w))
    (A2 : Hid (∀ w, Calls Try.prog 31 #[.float .f64 c, .float .f64 b] w fun e w' => e = .returned (.bool false) ∧ w' = w))
    (A3 : Hid (∀ w, Calls Try.prog 31 #[.float .f64 b, .float .f64 a] w fun e w' => e = .returned (.bool false) ∧ w' = w))
    (h1 : ∀ t, (binOp .add t (.float .f64 a) (.float .f64 b)).run Try.prog w = .ok (.float .f64 r) (w.drewN k))
    (h2 : ∀ t, (binOp .add t (.float .f64 r) (.float .f64 c)).run Try.prog (w.drewN k) = .ok (.float .f64 s) ((w.drewN k).drewN m))
    (Q : Hid (∀ w, Calls Try.prog 25 #[.float .f64 s] w fun e w' => e = .returned (.float .f64 q) ∧ w' = w)) :
    Calls Try.prog 18 #[.float .f64 a, .float .f64 b, .float .f64 c] w fun e w' => e = .returned (.float .f64 q) ∧ ∃ k, w' = w.drewN k := by
  go_enter Try.func18, Try.ntmps18
  go_wp2_with fail
  refine (A1.out _).mono ?_
  rintro e w' ⟨rfl, rfl⟩
  go_wp2_with fail
  refine (A2.out _).mono ?_
  rintro e w' ⟨rfl, rfl⟩
  go_wp2_with fail
  refine (A3.out _).mono ?_
  rintro e w' ⟨rfl, rfl⟩
  go_wp2_with fail
  refine (Q.out _).mono ?_
  rintro e w' ⟨rfl, rfl⟩
  go_wp2
  go_ret
  exact ⟨rfl, _, rfl⟩
set_option maxHeartbeats 1000000 in
theorem rthree_001 (a b c q r s k m : Nat) (w : World)
    (A1 : Hid (∀ w, Calls Try.prog 31 #[.float .f64 b, .float .f64 a] w fun e w' => e = .returned (.bool false) ∧ w' = w))
    (A2 : Hid (∀ w, Calls Try.prog 31 #[.float .f64 c, .float .f64 b] w fun e w' => e = .returned (.bool false) ∧ w' = w))
    (A3 : Hid (∀ w, Calls Try.prog 31 #[.float .f64 b, .float .f64 a] w fun e w' => e = .returned (.bool true) ∧ w' = w))
    (h1 : ∀ t, (binOp .add t (.float .f64 b) (.float .f64 a)).run Try.prog w = .ok (.float .f64 r) (w.drewN k))
    (h2 : ∀ t, (binOp .add t (.float .f64 r) (.float .f64 c)).run Try.prog (w.drewN k) = .ok (.float .f64 s) ((w.drewN k).drewN m))
    (Q : Hid (∀ w, Calls Try.prog 25 #[.float .f64 s] w fun e w' => e = .returned (.float .f64 q) ∧ w' = w)) :
    Calls Try.prog 18 #[.float .f64 a, .float .f64 b, .float .f64 c] w fun e w' => e = .returned (.float .f64 q) ∧ ∃ k, w' = w.drewN k := by
  go_enter Try.func18, Try.ntmps18
  go_wp2_with fail
  refine (A1.out _).mono ?_
  rintro e w' ⟨rfl, rfl⟩
  go_wp2_with fail
  refine (A2.out _).mono ?_
  rintro e w' ⟨rfl, rfl⟩
  go_wp2_with fail
  refine (A3.out _).mono ?_
  rintro e w' ⟨rfl, rfl⟩
  go_wp2_with fail
  refine (Q.out _).mono ?_
  rintro e w' ⟨rfl, rfl⟩
  go_wp2
  go_ret
  exact ⟨rfl, _, rfl⟩
set_option maxHeartbeats 1000000 in
theorem rthree_010 (a b c q r s k m : Nat) (w : World)
    (A1 : Hid (∀ w, Calls Try.prog 31 #[.float .f64 b, .float .f64 a] w fun e w' => e = .returned (.bool false) ∧ w' = w))
    (A2 : Hid (∀ w, Calls Try.prog 31 #[.float .f64 c, .float .f64 b] w fun e w' => e = .returned (.bool true) ∧ w' = w))
    (A3 : Hid (∀ w, Calls Try.prog 31 #[.float .f64 c, .float .f64 a] w fun e w' => e = .returned (.bool false) ∧ w' = w))
    (h1 : ∀ t, (binOp .add t (.float .f64 a) (.float .f64 c)).run Try.prog w = .ok (.float .f64 r) (w.drewN k))
    (h2 : ∀ t, (binOp .add t (.float .f64 r) (.float .f64 b)).run Try.prog (w.drewN k) = .ok (.float .f64 s) ((w.drewN k).drewN m))
    (Q : Hid (∀ w, Calls Try.prog 25 #[.float .f64 s] w fun e w' => e = .returned (.float .f64 q) ∧ w' = w)) :
    Calls Try.prog 18 #[.float .f64 a, .float .f64 b, .float .f64 c] w fun e w' => e = .returned (.float .f64 q) ∧ ∃ k, w' = w.drewN k := by
  go_enter Try.func18, Try.ntmps18
  go_wp2_with fail
  refine (A1.out _).mono ?_
  rintro e w' ⟨rfl, rfl⟩
  go_wp2_with fail
  refine (A2.out _).mono ?_
  rintro e w' ⟨rfl, rfl⟩
  go_wp2_with fail
  refine (A3.out _).mono ?_
  rintro e w' ⟨rfl, rfl⟩
  go_wp2_with fail
  refine (Q.out _).mono ?_
  rintro e w' ⟨rfl, rfl⟩
  go_wp2
  go_ret
  exact ⟨rfl, _, rfl⟩
set_option maxHeartbeats 1000000 in
theorem rthree_011 (a b c q r s k m : Nat) (w : World)
    (A1 : Hid (∀ w, Calls Try.prog 31 #[.float .f64 b, .float .f64 a] w fun e w' => e = .returned (.bool false) ∧ w' = w))
    (A2 : Hid (∀ w, Calls Try.prog 31 #[.float .f64 c, .float .f64 b] w fun e w' => e = .returned (.bool true) ∧ w' = w))
    (A3 : Hid (∀ w, Calls Try.prog 31 #[.float .f64 c, .float .f64 a] w fun e w' => e = .returned (.bool true) ∧ w' = w))
    (h1 : ∀ t, (binOp .add t (.float .f64 c) (.float .f64 a)).run Try.prog w = .ok (.float .f64 r) (w.drewN k))
    (h2 : ∀ t, (binOp .add t (.float .f64 r) (.float .f64 b)).run Try.prog (w.drewN k) = .ok (.float .f64 s) ((w.drewN k).drewN m))
    (Q : Hid (∀ w, Calls Try.prog 25 #[.float .f64 s] w fun e w' => e = .returned (.float .f64 q) ∧ w' = w)) :
    Calls Try.prog 18 #[.float .f64 a, .float .f64 b, .float .f64 c] w fun e w' => e = .returned (.float .f64 q) ∧ ∃ k, w' = w.drewN k := by
  go_enter Try.func18, Try.ntmps18
  go_wp2_with fail
  refine (A1.out _).mono ?_
  rintro e w' ⟨rfl, rfl⟩
  go_wp2_with fail
  refine (A2.out _).mono ?_
  rintro e w' ⟨rfl, rfl⟩
  go_wp2_with fail
  refine (A3.out _).mono ?_
  rintro e w' ⟨rfl, rfl⟩
  go_wp2_with fail
  refine (Q.out _).mono ?_
  rintro e w' ⟨rfl, rfl⟩
  go_wp2
  go_ret
  exact ⟨rfl, _, rfl⟩
set_option maxHeartbeats 1000000 in
theorem rthree_100 (a b c q r s k m : Nat) (w : World)
    (A1 : Hid (∀ w, Calls Try.prog 31 #[.float .f64 b, .float .f64 a] w fun e w' => e = .returned (.bool true) ∧ w' = w))
    (A2 : Hid (∀ w, Calls Try.prog 31 #[.float .f64 c, .float .f64 a] w fun e w' => e = .returned (.bool false) ∧ w' = w))
    (A3 : Hid (∀ w, Calls Try.prog 31 #[.float .f64 a, .float .f64 b] w fun e w' => e = .returned (.bool false) ∧ w' = w))
    (h1 : ∀ t, (binOp .add t (.float .f64 b) (.float .f64 a)).run Try.prog w = .ok (.float .f64 r) (w.drewN k))
    (h2 : ∀ t, (binOp .add t (.float .f64 r) (.float .f64 c)).run Try.prog (w.drewN k) = .ok (.float .f64 s) ((w.drewN k).drewN m))
    (Q : Hid (∀ w, Calls Try.prog 25 #[.float .f64 s] w fun e w' => e = .returned (.float .f64 q) ∧ w' = w)) :
    Calls Try.prog 18 #[.float .f64 a, .float .f64 b, .float .f64 c] w fun e w' => e = .returned (.float .f64 q) ∧ ∃ k, w' = w.drewN k := by
  go_enter Try.func18, Try.ntmps18
  go_wp2_with fail
  refine (A1.out _).mono ?_
  rintro e w' ⟨rfl, rfl⟩
  go_wp2_with fail
  refine (A2.out _).mono ?_
  rintro e w' ⟨rfl, rfl⟩
  go_wp2_with fail
  refine (A3.out _).mono ?_
  rintro e w' ⟨rfl, rfl⟩
  go_wp2_with fail
  refine (Q.out _).mono ?_
  rintro e w' ⟨rfl, rfl⟩
  go_wp2
  go_ret
  exact ⟨rfl, _, rfl⟩
set_option maxHeartbeats 1000000 in
theorem rthree_101 (a b c q r s k m : Nat) (w : World)
    (A1 : Hid (∀ w, Calls Try.prog 31 #[.float .f64 b, .float .f64 a] w fun e w' => e = .returned (.bool true) ∧ w' = w))
    (A2 : Hid (∀ w, Calls Try.prog 31 #[.float .f64 c, .float .f64 a] w fun e w' => e = .returned (.bool false) ∧ w' = w))
    (A3 : Hid (∀ w, Calls Try.prog 31 #[.float .f64 a, .float .f64 b] w fun e w' => e = .returned (.bool true) ∧ w' = w))
    (h1 : ∀ t, (binOp .add t (.float .f64 a) (.float .f64 b)).run Try.prog w = .ok (.float .f64 r) (w.drewN k))
    (h2 : ∀ t, (binOp .add t (.float .f64 r) (.float .f64 c)).run Try.prog (w.drewN k) = .ok (.float .f64 s) ((w.drewN k).drewN m))
    (Q : Hid (∀ w, Calls Try.prog 25 #[.float .f64 s] w fun e w' => e = .returned (.float .f64 q) ∧ w' = w)) :
    Calls Try.prog 18 #[.float .f64 a, .float .f64 b, .float .f64 c] w fun e w' => e = .returned (.float .f64 q) ∧ ∃ k, w' = w.drewN k := by
  go_enter Try.func18, Try.ntmps18
  go_wp2_with fail
  refine (A1.out _).mono ?_
  rintro e w' ⟨rfl, rfl⟩
  go_wp2_with fail
  refine (A2.out _).mono ?_
  rintro e w' ⟨rfl, rfl⟩
  go_wp2_with fail
  refine (A3.out _).mono ?_
  rintro e w' ⟨rfl, rfl⟩
  go_wp2_with fail
  refine (Q.out _).mono ?_
  rintro e w' ⟨rfl, rfl⟩
  go_wp2
  go_ret
  exact ⟨rfl, _, rfl⟩
set_option maxHeartbeats 1000000 in
theorem rthree_110 (a b c q r s k m : Nat) (w : World)
    (A1 : Hid (∀ w, Calls Try.prog 31 #[.float .f64 b, .float .f64 a] w fun e w' => e = .returned (.bool true) ∧ w' = w))
    (A2 : Hid (∀ w, Calls Try.prog 31 #[.float .f64 c, .float .f64 a] w fun e w' => e = .returned (.bool true) ∧ w' = w))
    (A3 : Hid (∀ w, Calls Try.prog 31 #[.float .f64 c, .float .f64 b] w fun e w' => e = .returned (.bool false) ∧ w' = w))
    (h1 : ∀ t, (binOp .add t (.float .f64 b) (.float .f64 c)).run Try.prog w = .ok (.float .f64 r) (w.drewN k))
    (h2 : ∀ t, (binOp .add t (.float .f64 r) (.float .f64 a)).run Try.prog (w.drewN k) = .ok (.float .f64 s) ((w.drewN k).drewN m))
    (Q : Hid (∀ w, Calls Try.prog 25 #[.float .f64 s] w fun e w' => e = .returned (.float .f64 q) ∧ w' = w)) :
    Calls Try.prog 18 #[.float .f64 a, .float .f64 b, .float .f64 c] w fun e w' => e = .returned (.float .f64 q) ∧ ∃ k, w' = w.drewN k := by
  go_enter Try.func18, Try.ntmps18
  go_wp2_with fail
  refine (A1.out _).mono ?_
  rintro e w' ⟨rfl, rfl⟩
  go_wp2_with fail
  refine (A2.out _).mono ?_
  rintro e w' ⟨rfl, rfl⟩
  go_wp2_with fail
  refine (A3.out _).mono ?_
  rintro e w' ⟨rfl, rfl⟩
  go_wp2_with fail
  refine (Q.out _).mono ?_
  rintro e w' ⟨rfl, rfl⟩
  go_wp2
  go_ret
  exact ⟨rfl, _, rfl⟩
set_option maxHeartbeats 1000000 in
theorem rthree_111 (a b c q r s k m : Nat) (w : World)
    (A1 : Hid (∀ w, Calls Try.prog 31 #[.float .f64 b, .float .f64 a] w fun e w' => e = .returned (.bool true) ∧ w' = w))
    (A2 : Hid (∀ w, Calls Try.prog 31 #[.float .f64 c, .float .f64 a] w fun e w' => e = .returned (.bool true) ∧ w' = w))
    (A3 : Hid (∀ w, Calls Try.prog 31 #[.float .f64 c, .float .f64 b] w fun e w' => e = .returned (.bool true) ∧ w' = w))
    (h1 : ∀ t, (binOp .add t (.float .f64 c) (.float .f64 b)).run Try.prog w = .ok (.float .f64 r) (w.drewN k))
    (h2 : ∀ t, (binOp .add t (.float .f64 r) (.float .f64 a)).run Try.prog (w.drewN k) = .ok (.float .f64 s) ((w.drewN k).drewN m))
    (Q : Hid (∀ w, Calls Try.prog 25 #[.float .f64 s] w fun e w' => e = .returned (.float .f64 q) ∧ w' = w)) :
    Calls Try.prog 18 #[.float .f64 a, .float .f64 b, .float .f64 c] w fun e w' => e = .returned (.float .f64 q) ∧ ∃ k, w' = w.drewN k := by
  go_enter Try.func18, Try.ntmps18
  go_wp2_with fail
  refine (A1.out _).mono ?_
  rintro e w' ⟨rfl, rfl⟩
  go_wp2_with fail
  refine (A2.out _).mono ?_
  rintro e w' ⟨rfl, rfl⟩
  go_wp2_with fail
  refine (A3.out _).mono ?_
  rintro e w' ⟨rfl, rfl⟩
  go_wp2_with fail
  refine (Q.out _).mono ?_
  rintro e w' ⟨rfl, rfl⟩
  go_wp2
  go_ret
  exact ⟨rfl, _, rfl⟩
/-- THREE, the reference's -/
theorem rthree_at (a b c : Nat) (w : World) (ha : a < 18446744073709551616) (hb : b < 18446744073709551616) (hc : c < 18446744073709551616) :
    Calls Try.prog 18 #[.float .f64 a, .float .f64 b, .float .f64 c] w fun e w' => e = .returned (.float .f64 (thB a b c)) ∧ ∃ k, w' = w.drewN k := by
  have fin : ∀ u v z, u < 18446744073709551616 → v < 18446744073709551616 → z < 18446744073709551616 → ∃ r s k m : Nat, (∀ t, (binOp .add t (.float .f64 u) (.float .f64 v)).run Try.prog w = .ok (.float .f64 r) (w.drewN k)) ∧ (∀ t, (binOp .add t (.float .f64 r) (.float .f64 z)).run Try.prog (w.drewN k) = .ok (.float .f64 s) ((w.drewN k).drewN m)) ∧ Hid (∀ w, Calls Try.prog 25 #[.float .f64 s] w fun e w' => e = .returned (.float .f64 (plB (plB u v) z)) ∧ w' = w) := by
    intro u v z hu hv hz
    obtain ⟨r, k, h1, q1⟩ := add_any (P := Try.prog) w u _ v _ (IsQ.self hu) (IsQ.self hv)
    obtain ⟨s, m, h2, q2⟩ := add_any (P := Try.prog) (w.drewN k) r _ z _ q1 (IsQ.self hz)
    rw [plB_ql, plB_qr, plB_qr] at q2
    exact ⟨r, s, k, m, h1, h2, fun w => quieted_at s _ w q2⟩
  unfold thB
  by_cases k1 : key b < key a
  · have lk1 : loB a b = b := by unfold loB; rw [if_pos k1]
    have gk1 : hiB a b = a := by unfold hiB; rw [if_pos k1]
    rw [lk1, gk1]
    by_cases k2 : key c < key a
    · have lk2 : loB a c = c := by unfold loB; rw [if_pos k2]
      have gk2 : hiB a c = a := by unfold hiB; rw [if_pos k2]
      rw [lk2, gk2]
      by_cases k3 : key c < key b
      · have lk3 : loB b c = c := by unfold loB; rw [if_pos k3]
        have gk3 : hiB b c = b := by unfold hiB; rw [if_pos k3]
        rw [lk3, gk3]
        obtain ⟨r, s, k, m, h1, h2, hq⟩ := fin c b a hc hb ha
        exact rthree_111 a b c _ r s k m w (fun w => ahead_at b a _ w hb ha (decide_eq_true k1)) (fun w => ahead_at c a _ w hc ha (decide_eq_true k2)) (fun w => ahead_at c b _ w hc hb (decide_eq_true k3)) h1 h2 hq
      · have lk3 : loB b c = b := by unfold loB; rw [if_neg k3]
        have gk3 : hiB b c = c := by unfold hiB; rw [if_neg k3]
        rw [lk3, gk3]
        obtain ⟨r, s, k, m, h1, h2, hq⟩ := fin b c a hb hc ha
        exact rthree_110 a b c _ r s k m w (fun w => ahead_at b a _ w hb ha (decide_eq_true k1)) (fun w => ahead_at c a _ w hc ha (decide_eq_true k2)) (fun w => ahead_at c b _ w hc hb (decide_eq_false k3)) h1 h2 hq
    · have lk2 : loB a c = a := by unfold loB; rw [if_neg k2]
      have gk2 : hiB a c = c := by unfold hiB; rw [if_neg k2]
      rw [lk2, gk2]
      by_cases k3 : key a < key b
      · have lk3 : loB b a = a := by unfold loB; rw [if_pos k3]
        have gk3 : hiB b a = b := by unfold hiB; rw [if_pos k3]
        rw [lk3, gk3]
        obtain ⟨r, s, k, m, h1, h2, hq⟩ := fin a b c ha hb hc
        exact rthree_101 a b c _ r s k m w (fun w => ahead_at b a _ w hb ha (decide_eq_true k1)) (fun w => ahead_at c a _ w hc ha (decide_eq_false k2)) (fun w => ahead_at a b _ w ha hb (decide_eq_true k3)) h1 h2 hq
      · have lk3 : loB b a = b := by unfold loB; rw [if_neg k3]
        have gk3 : hiB b a = a := by unfold hiB; rw [if_neg k3]
        rw [lk3, gk3]
        obtain ⟨r, s, k, m, h1, h2, hq⟩ := fin b a c hb ha hc
        exact rthree_100 a b c _ r s k m w (fun w => ahead_at b a _ w hb ha (decide_eq_true k1)) (fun w => ahead_at c a _ w hc ha (decide_eq_false k2)) (fun w => ahead_at a b _ w ha hb (decide_eq_false k3)) h1 h2 hq
  · have lk1 : loB a b = a := by unfold loB; rw [if_neg k1]
    have gk1 : hiB a b = b := by unfold hiB; rw [if_neg k1]
    rw [lk1, gk1]
    by_cases k2 : key c < key b
    · have lk2 : loB b c = c := by unfold loB; rw [if_pos k2]
      have gk2 : hiB b c = b := by unfold hiB; rw [if_pos k2]
      rw [lk2, gk2]
      by_cases k3 : key c < key a
      · have lk3 : loB a c = c := by unfold loB; rw [if_pos k3]
        have gk3 : hiB a c = a := by unfold hiB; rw [if_pos k3]
        rw [lk3, gk3]
        obtain ⟨r, s, k, m, h1, h2, hq⟩ := fin c a b hc ha hb
        exact rthree_011 a b c _ r s k m w (fun w => ahead_at b a _ w hb ha (decide_eq_false k1)) (fun w => ahead_at c b _ w hc hb (decide_eq_true k2)) (fun w => ahead_at c a _ w hc ha (decide_eq_true k3)) h1 h2 hq
      · have lk3 : loB a c = a := by unfold loB; rw [if_neg k3]
        have gk3 : hiB a c = c := by unfold hiB; rw [if_neg k3]
        rw [lk3, gk3]
        obtain ⟨r, s, k, m, h1, h2, hq⟩ := fin a c b ha hc hb
        exact rthree_010 a b c _ r s k m w (fun w => ahead_at b a _ w hb ha (decide_eq_false k1)) (fun w => ahead_at c b _ w hc hb (decide_eq_true k2)) (fun w => ahead_at c a _ w hc ha (decide_eq_false k3)) h1 h2 hq
    · have lk2 : loB b c = b := by unfold loB; rw [if_neg k2]
      have gk2 : hiB b c = c := by unfold hiB; rw [if_neg k2]
      rw [lk2, gk2]
      by_cases k3 : key b < key a
      · have lk3 : loB a b = b := by unfold loB; rw [if_pos k3]
        have gk3 : hiB a b = a := by unfold hiB; rw [if_pos k3]
        rw [lk3, gk3]
        obtain ⟨r, s, k, m, h1, h2, hq⟩ := fin b a c hb ha hc
        exact rthree_001 a b c _ r s k m w (fun w => ahead_at b a _ w hb ha (decide_eq_false k1)) (fun w => ahead_at c b _ w hc hb (decide_eq_false k2)) (fun w => ahead_at b a _ w hb ha (decide_eq_true k3)) h1 h2 hq
      · have lk3 : loB a b = a := by unfold loB; rw [if_neg k3]
        have gk3 : hiB a b = b := by unfold hiB; rw [if_neg k3]
        rw [lk3, gk3]
        obtain ⟨r, s, k, m, h1, h2, hq⟩ := fin a b c ha hb hc
        exact rthree_000 a b c _ r s k m w (fun w => ahead_at b a _ w hb ha (decide_eq_false k1)) (fun w => ahead_at c b _ w hc hb (decide_eq_false k2)) (fun w => ahead_at b a _ w hb ha (decide_eq_false k3)) h1 h2 hq
end Go.Proofs.Ytflkbjcaajchjaa
