/-
  Careful sums, and sums of three: walks over the program.
-/
import Derived.Test.YtflkbjcaajchjaaSc
namespace Go.Proofs.Ytflkbjcaajchjaa
open Go.RowKit Tf
attribute [local go_sem] run_bits run_from raw_feq raw_fne raw_flt raw_fgt run_neg

set_option maxHeartbeats 4000000 in
theorem careful_go (a0 : Option Addr) (len cap : Nat) (xs : Nat → Nat) (w : World) (hcap : (len : Int) ≤ cap) (hl : (cap : Int) ≤ 9223372036854775807) (h : Hid (IsFl w a0 len xs)) :
    Calls Try.prog 15 #[.slice a0 len cap] w fun e w' => e = .returned (.float .f64 (careB xs len)) ∧ ∃ k, w' = w.drewN k := by
  have C := hid (fun x q w => oneNaN_at x q w)
  have T := hid (fun a b w ha hb => sum_at a b (addB a b) (sumE a b) w ha hb rfl rfl)
  go_enter Try.func15, Try.ntmps15
  go_wp2
  go_loopw [3, 4, 10] (fun sv cv iv wr => ∃ k c j : Nat, k ≤ len ∧ sv = .float .f64 (caS xs k) ∧ cv = .float .f64 c ∧ iv = .int .i64 (k : Nat) ∧ wr = w.drewN j ∧ Hid (IsQ c (caC xs k))) (fun _ _ iv _ => len - (intOf iv).toNat)
  case atStart => exact ⟨0, 0, 0, by omega, rfl, rfl, rfl, rfl, by decide, rfl⟩
  case round =>
    obtain ⟨k, c, j, hk, rfl, rfl, rfl, rfl, hq⟩ := hrel
    have hlt64 : Hid (∀ j, j < len → xs j < 18446744073709551616) := fun j hj => (h.out j hj).1
    by_cases hlt : k < len
    · obtain ⟨hx, b, o, ha, _, cn0⟩ := h.out k hlt
      subst ha
      have cn : (w.drewN j).cell? ⟨b, o + k, none⟩ = some (.float .f64 (xs k)) := cn0
      have T' := hid (fun w => T.out (caS xs k) (xs k) w (caS_lt xs k (fun j hj => hlt64.out j (by omega))) hx)
      have A := hid (fun wr => add_any (P := Try.prog) wr c _ (sumE (caS xs k) (xs k)) _ hq.out (IsQ.self (sumE_lt (caS xs k) (xs k))))
      have e1 : Hid (caS xs (k + 1) = addB (caS xs k) (xs k)) := rfl
      have e2 : Hid (caC xs (k + 1) = plB (caC xs k) (sumE (caS xs k) (xs k))) := rfl
      have HL := hid hlt
      have kl : ((k : Nat) : Int) < len := by omega
      obtain ⟨s', hs'⟩ : ∃ s, addB (caS xs k) (xs k) = s := ⟨_, rfl⟩
      obtain ⟨z, hz⟩ : ∃ s, sumE (caS xs k) (xs k) = s := ⟨_, rfl⟩
      rw [hs'] at T' e1
      rw [hz] at T' A e2
      obtain ⟨s, hs⟩ : ∃ s, caS xs k = s := ⟨_, rfl⟩
      obtain ⟨x, hx'⟩ : ∃ x, xs k = x := ⟨_, rfl⟩
      rw [hs] at T'
      rw [hx'] at T' cn cn0
      rw [hs]
      clear hs hx' hs' hz hx hlt hq hk T C hlt64 cn0
      go_wp2_with fail
      refine (T'.out _).mono ?_
      rintro e w' ⟨rfl, n, rfl⟩
      obtain ⟨r, m, hr, hrq⟩ := A.out (w.drewN (j + n))
      rw [plB_qr] at hrq
      have HQ := hid hrq
      clear hrq A
      go_wp2
      refine ⟨⟨k + 1, r, _, HL.out, by rw [e1.out], rfl, by simp, rfl, by rw [e2.out]; exact HQ.out⟩, by have := HL.out; simp [intOf]; omega⟩
    · have e : k = len := by omega
      subst e
      have kl : decide (((k : Nat) : Int) < (k : Nat)) = false := by simp
      obtain ⟨r, m, hr, hrq⟩ := add_any (P := Try.prog) (w.drewN j) (caS xs k) _ c _ (IsQ.self (caS_lt xs k hlt64.out)) hq.out
      rw [plB_ql] at hrq
      have C' := hid (fun w => C.out r _ w hrq)
      clear C hq hlt hk hrq T
      go_wp2_with fail
      refine (C'.out _).mono ?_
      rintro e w' ⟨rfl, rfl⟩
      go_wp2
      go_ret
      exact ⟨rfl, _, rfl⟩
/-- CAREFULLY -/
theorem careful_at (a0 : Option Addr) (len cap : Nat) (xs : Nat → Nat) (w : World) (hcap : len ≤ cap) (hl : (cap : Int) ≤ 9223372036854775807) (h : IsFl w a0 len xs) :
    Calls Try.prog 15 #[.slice a0 len cap] w fun e w' => e = .returned (.float .f64 (careB xs len)) ∧ ∃ k, w' = w.drewN k :=
  careful_go a0 len cap xs w (by omega) hl h

theorem place_mg (x : Nat) : placeB (mg x) = mg x + 9223372036854775808 := by
  unfold placeB; rw [ng_of_lt (mg_lt x)]; rfl
theorem order_mg (a b : Nat) : orderB (mg a) (mg b) = if mg a < mg b then -1 else if mg b < mg a then 1 else 0 := by
  unfold orderB
  rw [place_mg, place_mg]
  by_cases h1 : mg a < mg b
  · rw [if_pos (by omega), if_pos h1]
  · rw [if_neg (by omega), if_neg h1]
    by_cases h2 : mg b < mg a
    · rw [if_pos (by omega), if_pos h2]
    · rw [if_neg (by omega), if_neg h2]
theorem key_lt (a b : Nat) (ha : a < 18446744073709551616) (hb : b < 18446744073709551616) : key b < key a ↔ mg b < mg a ∨ (mg a = mg b ∧ placeB b < placeB a) := by
  have h1 := word_eq a ha
  have h2 := word_eq b hb
  have h3 := mg_lt a
  have h4 := mg_lt b
  unfold key placeB
  revert h1 h2
  cases ng a <;> cases ng b <;> simp <;> omega
set_option maxHeartbeats 1000000 in
theorem behind_at (a b : Nat) (r : Bool) (w : World) (ha : a < 18446744073709551616) (hb : b < 18446744073709551616) (hr : decide (key b < key a) = r) :
    Calls Try.prog 45 #[.float .f64 a, .float .f64 b] w fun e w' => e = .returned (.bool r) ∧ w' = w := by
  have A := hid (fun w => abs_any a w ha)
  have B := hid (fun w => abs_any b w hb)
  have h3 := mg_lt a
  have h4 := mg_lt b
  have O := hid (fun o w h => orderB_at (mg a) (mg b) o w (by omega) (by omega) h)
  have O2 := hid (fun w => orderB_at a b _ w ha hb rfl)
  have hk := key_lt a b ha hb
  have ho := order_mg a b
  by_cases c1 : mg a < mg b
  · rw [if_pos c1] at ho
    have O' := hid (fun w => O.out _ w ho)
    have e : r = false := by rw [← hr]; exact decide_eq_false (fun x => by have := hk.1 x; omega)
    subst e
    clear O O2 hk hr ho c1 h3 h4 ha hb
    generalize mg a = ma at *
    generalize mg b = mb at *
    go_enter Try.func45, Try.ntmps45
    go_wp2_with fail
    refine (A.out _).mono ?_
    rintro e w' ⟨rfl, rfl⟩
    go_wp2_with fail
    refine (B.out _).mono ?_
    rintro e w' ⟨rfl, rfl⟩
    go_wp2_with fail
    refine (O'.out _).mono ?_
    rintro e w' ⟨rfl, rfl⟩
    go_wp2
    go_ret
    exact ⟨rfl, rfl⟩
  by_cases c2 : mg b < mg a
  · rw [if_neg c1, if_pos c2] at ho
    have O' := hid (fun w => O.out _ w ho)
    have e : r = true := by rw [← hr]; exact decide_eq_true (hk.2 (.inl c2))
    subst e
    clear O O2 hk hr ho c1 c2 h3 h4 ha hb
    generalize mg a = ma at *
    generalize mg b = mb at *
    go_enter Try.func45, Try.ntmps45
    go_wp2_with fail
    refine (A.out _).mono ?_
    rintro e w' ⟨rfl, rfl⟩
    go_wp2_with fail
    refine (B.out _).mono ?_
    rintro e w' ⟨rfl, rfl⟩
    go_wp2_with fail
    refine (O'.out _).mono ?_
    rintro e w' ⟨rfl, rfl⟩
    go_wp2
    go_ret
    exact ⟨rfl, rfl⟩
  · rw [if_neg c1, if_neg c2] at ho
    have O' := hid (fun w => O.out _ w ho)
    obtain ⟨o, ho2⟩ : ∃ o, orderB a b = o := ⟨_, rfl⟩
    have e : decide (0 < o) = r := by
      rw [← hr, ← ho2]
      refine decide_eq_decide.2 ?_
      rw [orderB_gt, hk]
      constructor
      · intro h; exact .inr ⟨by omega, h⟩
      · rintro (h | h)
        · omega
        · exact h.2
    rw [ho2] at O2
    clear O hk hr ho c1 c2 h3 h4 ha hb ho2
    generalize mg a = ma at *
    generalize mg b = mb at *
    go_enter Try.func45, Try.ntmps45
    go_wp2_with fail
    refine (A.out _).mono ?_
    rintro e w' ⟨rfl, rfl⟩
    go_wp2_with fail
    refine (B.out _).mono ?_
    rintro e w' ⟨rfl, rfl⟩
    go_wp2_with fail
    refine (O'.out _).mono ?_
    rintro e w' ⟨rfl, rfl⟩
    go_wp2_with fail
    refine (O2.out _).mono ?_
    rintro e w' ⟨rfl, rfl⟩
    go_wp2
    go_ret
    exact ⟨by first | rfl | (rw [← e]; try rfl) | skip, rfl⟩
set_option maxHeartbeats 1000000 in
theorem lesser_at (a b : Nat) (w : World) (ha : a < 18446744073709551616) (hb : b < 18446744073709551616) :
    Calls Try.prog 30 #[.float .f64 a, .float .f64 b] w fun e w' => e = .returned (.tuple #[.float .f64 (loB a b), .float .f64 (hiB a b)]) ∧ w' = w := by
  have B := hid (fun w => behind_at a b _ w ha hb rfl)
  unfold loB hiB
  by_cases c : key b < key a
  · rw [if_pos c, if_pos c]
    rw [decide_eq_true c] at B
    clear c
    go_enter Try.func30, Try.ntmps30
    go_wp2_with fail
    refine (B.out _).mono ?_
    rintro e w' ⟨rfl, rfl⟩
    go_wp2
    go_ret2
    exact ⟨rfl, rfl⟩
  · rw [if_neg c, if_neg c]
    rw [decide_eq_false c] at B
    clear c
    go_enter Try.func30, Try.ntmps30
    go_wp2_with fail
    refine (B.out _).mono ?_
    rintro e w' ⟨rfl, rfl⟩
    go_wp2
    go_ret2
    exact ⟨rfl, rfl⟩
theorem lo_lt {a b : Nat} (ha : a < 18446744073709551616) (hb : b < 18446744073709551616) : loB a b < 18446744073709551616 := by unfold loB; split <;> assumption
theorem hi_lt {a b : Nat} (ha : a < 18446744073709551616) (hb : b < 18446744073709551616) : hiB a b < 18446744073709551616 := by unfold hiB; split <;> assumption
set_option maxHeartbeats 2000000 in
theorem three_go (a b c a1 b1 b2 c2 a3 b3 r : Nat) (w : World)
    (L1 : Hid (∀ w, Calls Try.prog 30 #[.float .f64 a, .float .f64 b] w fun e w' => e = .returned (.tuple #[.float .f64 a1, .float .f64 b1]) ∧ w' = w))
    (L2 : Hid (∀ w, Calls Try.prog 30 #[.float .f64 b1, .float .f64 c] w fun e w' => e = .returned (.tuple #[.float .f64 b2, .float .f64 c2]) ∧ w' = w))
    (L3 : Hid (∀ w, Calls Try.prog 30 #[.float .f64 a1, .float .f64 b2] w fun e w' => e = .returned (.tuple #[.float .f64 a3, .float .f64 b3]) ∧ w' = w))
    (T : Hid (Calls Try.prog 23 #[.slice (some ⟨w.heap.size, 0, none⟩) 3 3] (w.alloc (.cells #[.float .f64 a3, .float .f64 b3, .float .f64 c2] 25)) fun e w' => e = .returned (.float .f64 r) ∧ Hid (Below w.heap.size w w'))) :
    Calls Try.prog 17 #[.float .f64 a, .float .f64 b, .float .f64 c] w fun e w' => e = .returned (.float .f64 r) ∧ Hid (Below w.heap.size w w') := by
  go_enter Try.func17, Try.ntmps17
  go_wp2_with fail
  refine (L1.out _).mono ?_
  rintro e w' ⟨rfl, rfl⟩
  go_wp2_with fail
  refine (L2.out _).mono ?_
  rintro e w' ⟨rfl, rfl⟩
  go_wp2_with fail
  refine (L3.out _).mono ?_
  rintro e w' ⟨rfl, rfl⟩
  go_wp2_with fail
  refine T.out.mono ?_
  rintro e w' ⟨rfl, hb⟩
  go_wp2
  go_ret
  exact ⟨rfl, hb⟩
/-- THREE -/
theorem three_at (a b c : Nat) (w : World) (ha : a < 18446744073709551616) (hb : b < 18446744073709551616) (hc : c < 18446744073709551616) :
    Calls Try.prog 17 #[.float .f64 a, .float .f64 b, .float .f64 c] w fun e w' => e = .returned (.float .f64 (thB a b c)) ∧ Hid (Below w.heap.size w w') := by
  have l1 := lo_lt ha hb
  have l2 := hi_lt ha hb
  have l3 := lo_lt l2 hc
  have l4 := hi_lt l2 hc
  refine three_go a b c _ _ _ _ _ _ _ w (fun w => lesser_at a b w ha hb) (fun w => lesser_at _ c w l2 hc) (fun w => lesser_at _ _ w l1 l3) ?_
  have l5 := lo_lt l1 l3
  have l6 := hi_lt l1 l3
  unfold thB
  generalize loB (loB a b) (loB (hiB a b) c) = u at *
  generalize hiB (loB a b) (loB (hiB a b) c) = v at *
  generalize hiB (hiB a b) c = z at *
  have hf : IsFl (w.alloc (.cells #[.float .f64 u, .float .f64 v, .float .f64 z] 25)) (some ⟨w.heap.size, 0, none⟩) 3 (fun j => if j = 0 then u else if j = 1 then v else z) := by
    refine fl_new w _ _ _ 3 (fun k hk => ?_)
    rcases (show k = 0 ∨ k = 1 ∨ k = 2 by omega) with rfl | rfl | rfl
    · exact ⟨l5, rfl⟩
    · exact ⟨l6, rfl⟩
    · exact ⟨l4, rfl⟩
  refine (inTurn_at _ 3 3 _ _ (Nat.le_refl _) (by decide) hf).mono ?_
  rintro e w' ⟨he, k, rfl⟩
  refine ⟨?_, below_drewN ((Below.refl _ _).alloc (Nat.le_refl _) _) k⟩
  rw [he]
  have : leftB (fun j => if j = 0 then u else if j = 1 then v else z) 3 = plB (plB (qB u) v) z := rfl
  rw [this, plB_ql]
end Go.Proofs.Ytflkbjcaajchjaa
