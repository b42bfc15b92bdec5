/-
  The reference's sums in stated orders: walks over the program.
-/
import Derived.Test.YtflkbjcaajchjaaSd
import Derived.Test.YtflkbjcaajchjaaTm
import Derived.Deep.RegionWith
namespace Go.Proofs.Ytflkbjcaajchjaa
open Go.RowKit Tf
attribute [local go_sem] run_bits run_from raw_feq raw_fne raw_flt raw_fgt run_neg

set_option maxHeartbeats 1000000 in
set_option maxRecDepth 100000 in
theorem refOrder_any (a b : Nat) (w : World) (ha : a < 18446744073709551616) (hb : b < 18446744073709551616) :
    Calls Try.prog 46 #[.float .f64 a, .float .f64 b] w fun e w' => e = .returned (.int .i64 (orderB a b)) ∧ w' = w := by
  obtain ⟨o, ho⟩ : ∃ o, orderB a b = o := ⟨_, rfl⟩
  rw [ho]
  by_cases c : a = b
  · have h : o = 0 := by rw [← ho, c]; unfold orderB; rw [if_neg (by omega), if_neg (by omega)]
    have e : ((a : Int) == (b : Int)) = true := by simp; omega
    rw [h]
    clear h ho
    subst c
    go_enter Try.func46, Try.ntmps46
    go_wp2_with fail
    refine (rawBits_any _ _).mono ?_
    rintro e w' ⟨rfl, rfl⟩
    go_wp2_with fail
    refine (rawBits_any _ _).mono ?_
    rintro e w' ⟨rfl, rfl⟩
    go_wp2
    go_ret
    exact ⟨rfl, rfl⟩
  · have e : ((a : Int) == (b : Int)) = false := by simp; omega
    cases hna : ng a
    · have la := lt_of_ng hna
      cases hnb : ng b
      · have lb := lt_of_ng hnb
        by_cases c2 : a < b
        · have h : o = -1 := by rw [← ho]; unfold orderB placeB; rw [hna, hnb]; simp only [Bool.false_eq_true, if_false]; rw [if_pos (by omega)]
          rw [h]
          clear h ho
          go_enter Try.func46, Try.ntmps46
          go_wp2_with fail
          refine (rawBits_any a _).mono ?_
          rintro e w' ⟨rfl, rfl⟩
          go_wp2_with fail
          refine (rawBits_any b _).mono ?_
          rintro e w' ⟨rfl, rfl⟩
          go_wp2_with fail
          refine (refBelow_any a _).mono ?_
          rintro e w' ⟨rfl, rfl⟩
          go_wp2_with fail
          refine (refBelow_any a _).mono ?_
          rintro e w' ⟨rfl, rfl⟩
          go_wp2_with fail
          refine (refBelow_any b _).mono ?_
          rintro e w' ⟨rfl, rfl⟩
          go_wp2
          go_ret
          exact ⟨rfl, rfl⟩
        · have h : o = 1 := by rw [← ho]; unfold orderB placeB; rw [hna, hnb]; simp only [Bool.false_eq_true, if_false]; rw [if_neg (by omega), if_pos (by omega)]
          rw [h]
          clear h ho
          go_enter Try.func46, Try.ntmps46
          go_wp2_with fail
          refine (rawBits_any a _).mono ?_
          rintro e w' ⟨rfl, rfl⟩
          go_wp2_with fail
          refine (rawBits_any b _).mono ?_
          rintro e w' ⟨rfl, rfl⟩
          go_wp2_with fail
          refine (refBelow_any a _).mono ?_
          rintro e w' ⟨rfl, rfl⟩
          go_wp2_with fail
          refine (refBelow_any a _).mono ?_
          rintro e w' ⟨rfl, rfl⟩
          go_wp2_with fail
          refine (refBelow_any b _).mono ?_
          rintro e w' ⟨rfl, rfl⟩
          go_wp2
          go_ret
          exact ⟨rfl, rfl⟩
      · have lb := ge_of_ng hnb
        have h : o = 1 := by rw [← ho]; unfold orderB placeB; rw [hna, hnb]; simp only [Bool.false_eq_true, if_false, if_true]; rw [if_neg (by omega), if_pos (by omega)]
        rw [h]
        clear h ho
        go_enter Try.func46, Try.ntmps46
        go_wp2_with fail
        refine (rawBits_any a _).mono ?_
        rintro e w' ⟨rfl, rfl⟩
        go_wp2_with fail
        refine (rawBits_any b _).mono ?_
        rintro e w' ⟨rfl, rfl⟩
        go_wp2_with fail
        refine (refBelow_any a _).mono ?_
        rintro e w' ⟨rfl, rfl⟩
        go_wp2_with fail
        refine (refBelow_any a _).mono ?_
        rintro e w' ⟨rfl, rfl⟩
        go_wp2_with fail
        refine (refBelow_any b _).mono ?_
        rintro e w' ⟨rfl, rfl⟩
        go_wp2
        go_ret
        exact ⟨rfl, rfl⟩
    · have la := ge_of_ng hna
      cases hnb : ng b
      · have lb := lt_of_ng hnb
        have h : o = -1 := by rw [← ho]; unfold orderB placeB; rw [hna, hnb]; simp only [Bool.false_eq_true, if_false, if_true]; rw [if_pos (by omega)]
        rw [h]
        clear h ho
        go_enter Try.func46, Try.ntmps46
        go_wp2_with fail
        refine (rawBits_any a _).mono ?_
        rintro e w' ⟨rfl, rfl⟩
        go_wp2_with fail
        refine (rawBits_any b _).mono ?_
        rintro e w' ⟨rfl, rfl⟩
        go_wp2_with fail
        refine (refBelow_any a _).mono ?_
        rintro e w' ⟨rfl, rfl⟩
        go_wp2_with fail
        refine (refBelow_any b _).mono ?_
        rintro e w' ⟨rfl, rfl⟩
        go_wp2_with fail
        refine (refBelow_any a _).mono ?_
        rintro e w' ⟨rfl, rfl⟩
        go_wp2
        go_ret
        exact ⟨rfl, rfl⟩
      · have lb := ge_of_ng hnb
        by_cases c2 : b < a
        · have h : o = -1 := by rw [← ho]; unfold orderB placeB; rw [hna, hnb]; simp only [if_true]; rw [if_pos (by omega)]
          rw [h]
          clear h ho
          go_enter Try.func46, Try.ntmps46
          go_wp2_with fail
          refine (rawBits_any a _).mono ?_
          rintro e w' ⟨rfl, rfl⟩
          go_wp2_with fail
          refine (rawBits_any b _).mono ?_
          rintro e w' ⟨rfl, rfl⟩
          go_wp2_with fail
          refine (refBelow_any a _).mono ?_
          rintro e w' ⟨rfl, rfl⟩
          go_wp2_with fail
          refine (refBelow_any b _).mono ?_
          rintro e w' ⟨rfl, rfl⟩
          go_wp2
          go_ret
          exact ⟨rfl, rfl⟩
        · have h : o = 1 := by rw [← ho]; unfold orderB placeB; rw [hna, hnb]; simp only [if_true]; rw [if_neg (by omega), if_pos (by omega)]
          rw [h]
          clear h ho
          go_enter Try.func46, Try.ntmps46
          go_wp2_with fail
          refine (rawBits_any a _).mono ?_
          rintro e w' ⟨rfl, rfl⟩
          go_wp2_with fail
          refine (rawBits_any b _).mono ?_
          rintro e w' ⟨rfl, rfl⟩
          go_wp2_with fail
          refine (refBelow_any a _).mono ?_
          rintro e w' ⟨rfl, rfl⟩
          go_wp2_with fail
          refine (refBelow_any b _).mono ?_
          rintro e w' ⟨rfl, rfl⟩
          go_wp2
          go_ret
          exact ⟨rfl, rfl⟩

theorem refOrd_at (a b : Nat) (r : Int) (w : World) (ha : a < 18446744073709551616) (hb : b < 18446744073709551616) (hr : Hid (orderB a b = r)) :
    Calls Try.prog 46 #[.float .f64 a, .float .f64 b] w fun e w' => e = .returned (.int .i64 r) ∧ w' = w := by
  rw [← hr.out]; exact refOrder_any a b w ha hb
set_option maxHeartbeats 1000000 in
theorem nought_at (w : World) : Calls Try.prog 24 #[] w fun e w' => e = .returned (.float .f64 0) ∧ w' = w := by
  go_enter Try.func24, Try.ntmps24
  go_wp2_with fail
  refine (from_at 0 0 _ (by decide)).mono ?_
  rintro e w' ⟨rfl, rfl⟩
  go_wp2
  go_ret
  exact ⟨rfl, rfl⟩
set_option maxHeartbeats 1000000 in
theorem quieted_at (x q : Nat) (w : World) (h : IsQ x q) :
    Calls Try.prog 25 #[.float .f64 x] w fun e w' => e = .returned (.float .f64 q) ∧ w' = w := by
  obtain ⟨h1, h2⟩ := h
  have C := hid (fun w => refNone_any x w)
  have D := hid refQuiet_any
  cases hN : isN x
  · rw [hN] at C
    rw [qB_of hN] at h2
    subst h2
    clear hN h1
    go_enter Try.func25, Try.ntmps25
    go_wp2_with fail
    refine (C.out _).mono ?_
    rintro e w' ⟨rfl, rfl⟩
    go_wp2
    go_ret
    exact ⟨rfl, rfl⟩
  · rw [hN] at C
    rw [qB_N hN] at h2
    subst h2
    clear hN h1
    go_enter Try.func25, Try.ntmps25
    go_wp2_with fail
    refine (C.out _).mono ?_
    rintro e w' ⟨rfl, rfl⟩
    go_wp2_with fail
    refine (D.out _).mono ?_
    rintro e w' ⟨rfl, rfl⟩
    go_wp2
    go_ret
    exact ⟨rfl, rfl⟩
set_option maxHeartbeats 4000000 in
theorem rleft_more (b o n cap : Nat) (xs : Nat → Nat) (w : World) (hcap : (n : Int) + 1 ≤ cap) (hl : (cap : Int) ≤ 9223372036854775807) (h : Hid (IsFl w (some ⟨b, o, none⟩) (n + 1) xs)) :
    Calls Try.prog 12 #[.slice (some ⟨b, o, none⟩) (n + 1 : Nat) cap] w fun e w' => e = .returned (.float .f64 (lfF xs n)) ∧ ∃ k, w' = w.drewN k := by
  have cells : ∀ k, k < n + 1 → ∀ j, (w.drewN j).cell? ⟨b, o + k, none⟩ = some (.float .f64 (xs k)) := by
    intro k hk j
    obtain ⟨_, b', o', e, _, h3⟩ := h.out k hk
    cases e; exact h3
  have h0 : w.cell? ⟨b, o, none⟩ = some (.float .f64 (xs 0)) := cells 0 (by omega) 0
  have HC := hid cells
  obtain ⟨x0, hx0⟩ : ∃ x, xs 0 = x := ⟨_, rfl⟩
  rw [hx0] at h0
  have HX := hid hx0
  have C := hid (fun x q w => quieted_at x q w)
  clear cells hx0
  go_enter Try.func12, Try.ntmps12
  go_wp2
  go_loopw [3, 4] (fun sv iv wr => ∃ k s j : Nat, k ≤ n ∧ sv = .float .f64 s ∧ iv = .int .i64 ((k + 1 : Nat) : Int) ∧ wr = w.drewN j ∧ Hid (IsQ s (lfF xs k))) (fun _ iv _ => n + 1 - (intOf iv).toNat)
  case atStart => exact ⟨0, x0, 0, by omega, rfl, rfl, rfl, by rw [← HX.out]; exact IsQ.self (h.out 0 (by omega)).1⟩
  case round =>
    obtain ⟨k, s, j, hk, rfl, rfl, rfl, hq⟩ := hrel
    by_cases hlt : k < n
    · have cn := HC.out (k + 1) (by omega) j
      obtain ⟨r, m, hr, hrq⟩ := add_any (P := Try.prog) (w.drewN j) s _ (xs (k + 1)) _ hq.out (IsQ.self (h.out (k + 1) (by omega)).1)
      rw [plB_qr] at hrq
      obtain ⟨x, hx⟩ : ∃ x, xs (k + 1) = x := ⟨_, rfl⟩
      rw [hx] at cn hr
      have HQ := hid hrq
      have HL := hid hlt
      have kl : ((k : Nat) : Int) < n := by omega
      clear hx hrq hlt hq hk
      go_wp2
      refine ⟨⟨k + 1, r, _, HL.out, rfl, by simp, rfl, HQ.out⟩, by have := HL.out; simp [intOf]; omega⟩
    · have e : k = n := by omega
      subst e
      have kl : decide (((k : Nat) : Int) + 1 < (k : Nat) + 1) = false := by simp
      have C' := hid (fun w => C.out s (lfF xs k) w hq.out)
      clear C hq hlt hk
      go_wp2_with fail
      refine (C'.out _).mono ?_
      rintro e w' ⟨rfl, rfl⟩
      go_wp2
      go_ret
      exact ⟨rfl, _, rfl⟩
set_option maxHeartbeats 1000000 in
theorem rleft_none (a0 : Option Addr) (cap : Nat) (w : World) :
    Calls Try.prog 12 #[.slice a0 0 cap] w fun e w' => e = .returned (.float .f64 0) ∧ w' = w := by
  go_enter Try.func12, Try.ntmps12
  go_wp2_with fail
  refine (nought_at _).mono ?_
  rintro e w' ⟨rfl, rfl⟩
  go_wp2
  go_ret
  exact ⟨rfl, rfl⟩
theorem rleft_at (a0 : Option Addr) (len cap : Nat) (xs : Nat → Nat) (w : World) (hcap : len ≤ cap) (hl : (cap : Int) ≤ 9223372036854775807) (h : IsFl w a0 len xs) :
    Calls Try.prog 12 #[.slice a0 len cap] w fun e w' => e = .returned (.float .f64 (leftB xs len)) ∧ ∃ k, w' = w.drewN k := by
  by_cases h0 : len = 0
  · subst h0
    exact (rleft_none a0 cap w).mono fun e w' ⟨he, hw⟩ => ⟨he, 0, hw⟩
  · obtain ⟨x1, b, o, rfl, _, x3⟩ := h 0 (by omega)
    have e : leftB xs len = lfF xs (len - 1) := by unfold leftB; rw [if_neg h0]
    rw [e]
    have := rleft_more b o (len - 1) cap xs w (by omega) hl (by rw [show len - 1 + 1 = len by omega]; exact h)
    rw [show len - 1 + 1 = len by omega] at this
    exact this
set_option maxHeartbeats 4000000 in
theorem rcareful_go (a0 : Option Addr) (len cap : Nat) (xs : Nat → Nat) (w : World) (hcap : (len : Int) ≤ cap) (hl : (cap : Int) ≤ 9223372036854775807) (h : Hid (IsFl w a0 len xs)) :
    Calls Try.prog 16 #[.slice a0 len cap] w fun e w' => e = .returned (.float .f64 (careB xs len)) ∧ ∃ k, w' = w.drewN k := by
  have C := hid (fun x q w => quieted_at x q w)
  have N := hid nought_at
  have T := hid (fun a b w ha hb => rsum_at a b (addB a b) (sumE a b) w ha hb rfl rfl)
  go_enter Try.func16, Try.ntmps16
  go_wp2_with fail
  refine (N.out _).mono ?_
  rintro e w' ⟨rfl, rfl⟩
  go_wp2_with fail
  refine (N.out _).mono ?_
  rintro e w' ⟨rfl, rfl⟩
  go_wp2
  go_loopw [3, 4, 5] (fun sv cv iv wr => ∃ k c j : Nat, k ≤ len ∧ sv = .float .f64 (caS xs k) ∧ cv = .float .f64 c ∧ iv = .int .i64 (k : Nat) ∧ wr = w'.drewN j ∧ Hid (IsQ c (caC xs k))) (fun _ _ iv _ => len - (intOf iv).toNat)
  case atStart => exact ⟨0, 0, 0, by omega, rfl, rfl, rfl, rfl, by decide, rfl⟩
  case round =>
    obtain ⟨k, c, j, hk, rfl, rfl, rfl, rfl, hq⟩ := hrel
    have hlt64 : Hid (∀ j, j < len → xs j < 18446744073709551616) := fun j hj => (h.out j hj).1
    by_cases hlt : k < len
    · obtain ⟨hx, b, o, ha, _, cn0⟩ := h.out k hlt
      subst ha
      have cn : (w'.drewN j).cell? ⟨b, o + k, none⟩ = some (.float .f64 (xs k)) := cn0
      have T' := hid (fun w => T.out (caS xs k) (xs k) w (caS_lt xs k (fun j hj => hlt64.out j (by omega))) hx)
      have A := hid (fun wr => add_any (P := Try.prog) wr c _ (sumE (caS xs k) (xs k)) _ hq.out (IsQ.self (sumE_lt (caS xs k) (xs k))))
      have e1 : Hid (caS xs (k + 1) = addB (caS xs k) (xs k)) := rfl
      have e2 : Hid (caC xs (k + 1) = plB (caC xs k) (sumE (caS xs k) (xs k))) := rfl
      have HL := hid hlt
      have kl : ((k : Nat) : Int) < len := by omega
      obtain ⟨s', hs'⟩ : ∃ s, addB (caS xs k) (xs k) = s := ⟨_, rfl⟩
      obtain ⟨z, hz⟩ : ∃ s, sumE (caS xs k) (xs k) = s := ⟨_, rfl⟩
      rw [hs'] at T' e1
      rw [hz] at T' A e2
      obtain ⟨s, hs⟩ : ∃ s, caS xs k = s := ⟨_, rfl⟩
      obtain ⟨x, hx'⟩ : ∃ x, xs k = x := ⟨_, rfl⟩
      rw [hs] at T'
      rw [hx'] at T' cn cn0
      rw [hs]
      clear hs hx' hs' hz hx hlt hq hk T C hlt64 cn0
      go_wp2_with fail
      refine (T'.out _).mono ?_
      rintro e w'' ⟨rfl, n, rfl⟩
      obtain ⟨r, m, hr, hrq⟩ := A.out (w'.drewN (j + n))
      rw [plB_qr] at hrq
      have HQ := hid hrq
      clear hrq A
      go_wp2
      refine ⟨⟨k + 1, r, _, HL.out, by rw [e1.out], rfl, by simp, rfl, by rw [e2.out]; exact HQ.out⟩, by have := HL.out; simp [intOf]; omega⟩
    · have e : k = len := by omega
      subst e
      have kl : decide (((k : Nat) : Int) < (k : Nat)) = false := by simp
      obtain ⟨r, m, hr, hrq⟩ := add_any (P := Try.prog) (w'.drewN j) (caS xs k) _ c _ (IsQ.self (caS_lt xs k hlt64.out)) hq.out
      rw [plB_ql] at hrq
      have C' := hid (fun w => C.out r _ w hrq)
      clear C hq hlt hk hrq T
      go_wp2_with fail
      refine (C'.out _).mono ?_
      rintro e w'' ⟨rfl, rfl⟩
      go_wp2
      go_ret
      exact ⟨rfl, _, rfl⟩
theorem rcareful_at (a0 : Option Addr) (len cap : Nat) (xs : Nat → Nat) (w : World) (hcap : len ≤ cap) (hl : (cap : Int) ≤ 9223372036854775807) (h : IsFl w a0 len xs) :
    Calls Try.prog 16 #[.slice a0 len cap] w fun e w' => e = .returned (.float .f64 (careB xs len)) ∧ ∃ k, w' = w.drewN k :=
  rcareful_go a0 len cap xs w (by omega) hl h
end Go.Proofs.Ytflkbjcaajchjaa
