/-
  For every two floats, of any bits, the call of the statement on Max and Min returns true and leaves its arguments as they were.
-/
import Derived.Test.YtedobmladjhdkaaRows
import Derived.Test.YtedobmladjhdkaaWd
import Derived.ProofKit
import Derived.OpenShut
import Derived.WalkLawsBesides
namespace Go.Proofs.Ytedobmladjhdkaa.bitsMaxMinDone
open Go.ChangeShapes Go.WideShapes Go.ChangeAt Go.RowKit

theorem own : ownKnob Try.prog.godebug = none := by kernel_rfl

open Tf
attribute [local go_sem] run_bits run_from raw_feq raw_fne raw_flt raw_fgt run_neg
theorem placeB_inj (a b : Nat) (ha : a < 18446744073709551616) (hb : b < 18446744073709551616) (h : placeB a = placeB b) : a = b := by
  unfold placeB at h
  cases hna : ng a <;> cases hnb : ng b <;> rw [hna, hnb] at h <;> simp only [Bool.false_eq_true, if_false, if_true] at h
  · omega
  · have := lt_of_ng hna; have := ge_of_ng hnb; omega
  · have := ge_of_ng hna; have := lt_of_ng hnb; omega
  · omega
theorem maxB_comm (a b : Nat) (ha : a < 18446744073709551616) (hb : b < 18446744073709551616) : maxB b a = maxB a b := by
  unfold maxB
  rw [Bool.or_comm]
  split
  · rfl
  · have := placeB_inj a b ha hb
    by_cases c : placeB a < placeB b
    · rw [if_pos c, if_neg (by omega)]
    · by_cases c2 : placeB b < placeB a
      · rw [if_neg c, if_pos c2]
      · rw [if_neg c, if_neg c2]; exact (this (by omega)).symm
theorem minB_comm (a b : Nat) (ha : a < 18446744073709551616) (hb : b < 18446744073709551616) : minB b a = minB a b := by
  unfold minB
  rw [Bool.or_comm]
  split
  · rfl
  · have := placeB_inj a b ha hb
    by_cases c : placeB a < placeB b
    · rw [if_pos c, if_neg (by omega)]
    · by_cases c2 : placeB b < placeB a
      · rw [if_neg c, if_pos c2]
      · rw [if_neg c, if_neg c2]; exact (this (by omega)).symm
theorem rk_place (a b : Nat) (ha : a < 18446744073709551616) (hb : b < 18446744073709551616) (h : placeB a < placeB b) : rk a ≤ rk b := by
  unfold placeB rk at *
  have wa := word_eq a ha
  have wb := word_eq b hb
  have ma := mg_lt a
  have mb := mg_lt b
  cases hna : ng a <;> cases hnb : ng b <;> rw [hna] at wa h <;> rw [hnb] at wb h <;> simp only [Bool.false_eq_true, if_false, if_true] at wa wb h ⊢ <;> omega

/-- both as they stand: neither is a NaN, a ahead of b, or the same -/
theorem core (a b x y : Nat) (w : World) (ha : a < 18446744073709551616) (hb : b < 18446744073709551616)
    (f1 : feq a a = true) (f2 : feq b b = true)
    (hx : maxB a b = x) (hx2 : maxB b a = x) (hy : minB a b = y) (hy2 : minB b a = y) (lx : x < 18446744073709551616) (ly : y < 18446744073709551616)
    (f3 : fgt x y = true ∨ (fgt x y = false ∧ feq x y = true)) (s1 : (sameB x a = true ∧ sameB y b = true) ∨ (sameB x a = false ∧ sameB x b = true ∧ sameB y a = true)) (o : Int) (ho : orderB y x = o) (ho2 : o ≤ 0) :
    Calls Try.prog 6 #[.float .f64 a, .float .f64 b] w fun e w' => e = .returned (.bool true) ∧ w' = w := by
  have HX := hid hx
  have HX2 := hid hx2
  have HY := hid hy
  have HY2 := hid hy2
  have HO := hid ho
  have sx : sameB x x = true := by unfold sameB; simp
  have sy : sameB y y = true := by unfold sameB; simp
  have SX := hid sx
  have SY := hid sy
  have S1 := hid s1
  have F3 := hid f3
  clear hx hx2 hy hy2 ho sx sy s1 f3
  rcases S1.out with ⟨s1, s2⟩ | ⟨s1, s2, s3⟩
  · rcases F3.out with f3 | ⟨f3, f4⟩
    · clear S1 F3
      go_enter Try.func6, Try.ntmps6
      go_wp2_with fail
      refine (lives_any _).mono ?_
      rintro e w' ⟨rfl, rfl⟩
      go_wp2_with fail
      refine (max_at a b x _ ha hb HX.out).mono ?_
      rintro e w' ⟨rfl, rfl⟩
      go_wp2_with fail
      refine (min_at a b y _ ha hb HY.out).mono ?_
      rintro e w' ⟨rfl, rfl⟩
      go_wp2_with fail
      refine (max_at b a x _ hb ha HX2.out).mono ?_
      rintro e w' ⟨rfl, rfl⟩
      go_wp2_with fail
      refine (same_at x x true _ SX.out).mono ?_
      rintro e w' ⟨rfl, rfl⟩
      go_wp2_with fail
      refine (min_at b a y _ hb ha HY2.out).mono ?_
      rintro e w' ⟨rfl, rfl⟩
      go_wp2_with fail
      refine (same_at y y true _ SY.out).mono ?_
      rintro e w' ⟨rfl, rfl⟩
      go_wp2_with fail
      refine (same_at x a true _ s1).mono ?_
      rintro e w' ⟨rfl, rfl⟩
      go_wp2_with fail
      refine (same_at y b true _ s2).mono ?_
      rintro e w' ⟨rfl, rfl⟩
      go_wp2_with fail
      refine (ord_at y x o _ ly lx HO.out).mono ?_
      rintro e w' ⟨rfl, rfl⟩
      go_wp2
      go_ret
      exact ⟨rfl, rfl⟩
    · clear S1 F3
      go_enter Try.func6, Try.ntmps6
      go_wp2_with fail
      refine (lives_any _).mono ?_
      rintro e w' ⟨rfl, rfl⟩
      go_wp2_with fail
      refine (max_at a b x _ ha hb HX.out).mono ?_
      rintro e w' ⟨rfl, rfl⟩
      go_wp2_with fail
      refine (min_at a b y _ ha hb HY.out).mono ?_
      rintro e w' ⟨rfl, rfl⟩
      go_wp2_with fail
      refine (max_at b a x _ hb ha HX2.out).mono ?_
      rintro e w' ⟨rfl, rfl⟩
      go_wp2_with fail
      refine (same_at x x true _ SX.out).mono ?_
      rintro e w' ⟨rfl, rfl⟩
      go_wp2_with fail
      refine (min_at b a y _ hb ha HY2.out).mono ?_
      rintro e w' ⟨rfl, rfl⟩
      go_wp2_with fail
      refine (same_at y y true _ SY.out).mono ?_
      rintro e w' ⟨rfl, rfl⟩
      go_wp2_with fail
      refine (same_at x a true _ s1).mono ?_
      rintro e w' ⟨rfl, rfl⟩
      go_wp2_with fail
      refine (same_at y b true _ s2).mono ?_
      rintro e w' ⟨rfl, rfl⟩
      go_wp2_with fail
      refine (ord_at y x o _ ly lx HO.out).mono ?_
      rintro e w' ⟨rfl, rfl⟩
      go_wp2
      go_ret
      exact ⟨rfl, rfl⟩
  · rcases F3.out with f3 | ⟨f3, f4⟩
    · clear S1 F3
      go_enter Try.func6, Try.ntmps6
      go_wp2_with fail
      refine (lives_any _).mono ?_
      rintro e w' ⟨rfl, rfl⟩
      go_wp2_with fail
      refine (max_at a b x _ ha hb HX.out).mono ?_
      rintro e w' ⟨rfl, rfl⟩
      go_wp2_with fail
      refine (min_at a b y _ ha hb HY.out).mono ?_
      rintro e w' ⟨rfl, rfl⟩
      go_wp2_with fail
      refine (max_at b a x _ hb ha HX2.out).mono ?_
      rintro e w' ⟨rfl, rfl⟩
      go_wp2_with fail
      refine (same_at x x true _ SX.out).mono ?_
      rintro e w' ⟨rfl, rfl⟩
      go_wp2_with fail
      refine (min_at b a y _ hb ha HY2.out).mono ?_
      rintro e w' ⟨rfl, rfl⟩
      go_wp2_with fail
      refine (same_at y y true _ SY.out).mono ?_
      rintro e w' ⟨rfl, rfl⟩
      go_wp2_with fail
      refine (same_at x a false _ s1).mono ?_
      rintro e w' ⟨rfl, rfl⟩
      go_wp2_with fail
      refine (same_at x b true _ s2).mono ?_
      rintro e w' ⟨rfl, rfl⟩
      go_wp2_with fail
      refine (same_at y a true _ s3).mono ?_
      rintro e w' ⟨rfl, rfl⟩
      go_wp2_with fail
      refine (ord_at y x o _ ly lx HO.out).mono ?_
      rintro e w' ⟨rfl, rfl⟩
      go_wp2
      go_ret
      exact ⟨rfl, rfl⟩
    · clear S1 F3
      go_enter Try.func6, Try.ntmps6
      go_wp2_with fail
      refine (lives_any _).mono ?_
      rintro e w' ⟨rfl, rfl⟩
      go_wp2_with fail
      refine (max_at a b x _ ha hb HX.out).mono ?_
      rintro e w' ⟨rfl, rfl⟩
      go_wp2_with fail
      refine (min_at a b y _ ha hb HY.out).mono ?_
      rintro e w' ⟨rfl, rfl⟩
      go_wp2_with fail
      refine (max_at b a x _ hb ha HX2.out).mono ?_
      rintro e w' ⟨rfl, rfl⟩
      go_wp2_with fail
      refine (same_at x x true _ SX.out).mono ?_
      rintro e w' ⟨rfl, rfl⟩
      go_wp2_with fail
      refine (min_at b a y _ hb ha HY2.out).mono ?_
      rintro e w' ⟨rfl, rfl⟩
      go_wp2_with fail
      refine (same_at y y true _ SY.out).mono ?_
      rintro e w' ⟨rfl, rfl⟩
      go_wp2_with fail
      refine (same_at x a false _ s1).mono ?_
      rintro e w' ⟨rfl, rfl⟩
      go_wp2_with fail
      refine (same_at x b true _ s2).mono ?_
      rintro e w' ⟨rfl, rfl⟩
      go_wp2_with fail
      refine (same_at y a true _ s3).mono ?_
      rintro e w' ⟨rfl, rfl⟩
      go_wp2_with fail
      refine (ord_at y x o _ ly lx HO.out).mono ?_
      rintro e w' ⟨rfl, rfl⟩
      go_wp2
      go_ret
      exact ⟨rfl, rfl⟩

theorem nans (a b : Nat) (w : World) (ha : a < 18446744073709551616) (hb : b < 18446744073709551616) (h : feq a a = false ∨ (feq a a = true ∧ feq b b = false))
    (hx : maxB a b = 9221120237041090561) (hx2 : maxB b a = 9221120237041090561) (hy : minB a b = 9221120237041090561) (hy2 : minB b a = 9221120237041090561) :
    Calls Try.prog 6 #[.float .f64 a, .float .f64 b] w fun e w' => e = .returned (.bool true) ∧ w' = w := by
  have HX := hid hx
  have HX2 := hid hx2
  have HY := hid hy
  have HY2 := hid hy2
  clear hx hx2 hy hy2
  rcases h with h | ⟨h, h'⟩
  · go_enter Try.func6, Try.ntmps6
    go_wp2_with fail
    refine (lives_any _).mono ?_
    rintro e w' ⟨rfl, rfl⟩
    go_wp2_with fail
    refine (max_at a b 9221120237041090561 _ ha hb HX.out).mono ?_
    rintro e w' ⟨rfl, rfl⟩
    go_wp2_with fail
    refine (min_at a b 9221120237041090561 _ ha hb HY.out).mono ?_
    rintro e w' ⟨rfl, rfl⟩
    go_wp2_with fail
    refine (max_at b a 9221120237041090561 _ hb ha HX2.out).mono ?_
    rintro e w' ⟨rfl, rfl⟩
    go_wp2_with fail
    refine (same_at 9221120237041090561 9221120237041090561 true _ (by decide)).mono ?_
    rintro e w' ⟨rfl, rfl⟩
    go_wp2_with fail
    refine (min_at b a 9221120237041090561 _ hb ha HY2.out).mono ?_
    rintro e w' ⟨rfl, rfl⟩
    go_wp2_with fail
    refine (same_at 9221120237041090561 9221120237041090561 true _ (by decide)).mono ?_
    rintro e w' ⟨rfl, rfl⟩
    go_wp2_with fail
    refine (by_at 9221120237041090561 9221120237041090561 _ (by decide)).mono ?_
    rintro e w' ⟨rfl, rfl⟩
    go_wp2_with fail
    refine (same_at 9221120237041090561 9221120237041090561 true _ (by decide)).mono ?_
    rintro e w' ⟨rfl, rfl⟩
    go_wp2_with fail
    refine (by_at 9221120237041090561 9221120237041090561 _ (by decide)).mono ?_
    rintro e w' ⟨rfl, rfl⟩
    go_wp2_with fail
    refine (same_at 9221120237041090561 9221120237041090561 true _ (by decide)).mono ?_
    rintro e w' ⟨rfl, rfl⟩
    go_wp2
    go_ret
    exact ⟨rfl, rfl⟩
  · go_enter Try.func6, Try.ntmps6
    go_wp2_with fail
    refine (lives_any _).mono ?_
    rintro e w' ⟨rfl, rfl⟩
    go_wp2_with fail
    refine (max_at a b 9221120237041090561 _ ha hb HX.out).mono ?_
    rintro e w' ⟨rfl, rfl⟩
    go_wp2_with fail
    refine (min_at a b 9221120237041090561 _ ha hb HY.out).mono ?_
    rintro e w' ⟨rfl, rfl⟩
    go_wp2_with fail
    refine (max_at b a 9221120237041090561 _ hb ha HX2.out).mono ?_
    rintro e w' ⟨rfl, rfl⟩
    go_wp2_with fail
    refine (same_at 9221120237041090561 9221120237041090561 true _ (by decide)).mono ?_
    rintro e w' ⟨rfl, rfl⟩
    go_wp2_with fail
    refine (min_at b a 9221120237041090561 _ hb ha HY2.out).mono ?_
    rintro e w' ⟨rfl, rfl⟩
    go_wp2_with fail
    refine (same_at 9221120237041090561 9221120237041090561 true _ (by decide)).mono ?_
    rintro e w' ⟨rfl, rfl⟩
    go_wp2_with fail
    refine (by_at 9221120237041090561 9221120237041090561 _ (by decide)).mono ?_
    rintro e w' ⟨rfl, rfl⟩
    go_wp2_with fail
    refine (same_at 9221120237041090561 9221120237041090561 true _ (by decide)).mono ?_
    rintro e w' ⟨rfl, rfl⟩
    go_wp2_with fail
    refine (by_at 9221120237041090561 9221120237041090561 _ (by decide)).mono ?_
    rintro e w' ⟨rfl, rfl⟩
    go_wp2_with fail
    refine (same_at 9221120237041090561 9221120237041090561 true _ (by decide)).mono ?_
    rintro e w' ⟨rfl, rfl⟩
    go_wp2
    go_ret
    exact ⟨rfl, rfl⟩

theorem lit_lt {x : Nat} (h : (Lit.float .f64 x).wf = true) : x < 18446744073709551616 := by
  simpa [Lit.wf] using h
theorem feq_self (x : Nat) (hx : x < 18446744073709551616) : feq x x = !isN x := by
  rw [feq_rk x x hx hx]; cases isN x <;> simp

theorem walk (a0 : Nat) (a1 : Nat) (w0 : (Lit.float .f64 a0).wf = true) (w1 : (Lit.float .f64 a1).wf = true) (w : World) :
    Calls Try.prog 6 #[.float .f64 a0, .float .f64 a1] w fun e w' => e = .returned (.bool true) ∧ Grown w w' := by
  have ha := lit_lt w0
  have hb := lit_lt w1
  have f1 := feq_self a0 ha
  have f2 := feq_self a1 hb
  have cx := maxB_comm a0 a1 ha hb
  have cy := minB_comm a0 a1 ha hb
  have fin : ∀ e w', (e = Ending.returned (.bool true) ∧ w' = w) → (e = Ending.returned (.bool true) ∧ Grown w w') := by
    rintro e w' ⟨h, rfl⟩; exact ⟨h, Grown.refl _⟩
  cases nA : isN a0
  · cases nB : isN a1
    · rw [nA] at f1; rw [nB] at f2
      by_cases c : placeB a0 < placeB a1
      · have e1 : maxB a0 a1 = a1 := by unfold maxB; rw [nA, nB, if_neg (by simp), if_pos c]
        have e2 : minB a0 a1 = a0 := by unfold minB; rw [nA, nB, if_neg (by simp), if_neg (by omega)]
        have hr := rk_place a0 a1 ha hb c
        have hne : ¬ a1 = a0 := by intro h; rw [h] at c; omega
        refine (core a0 a1 a1 a0 w ha hb f1 f2 e1 (by rw [cx, e1]) e2 (by rw [cy, e2]) hb ha ?_ ?_ (-1) ?_ (by omega)).mono fun e w' h => fin e w' h
        · rw [fgt_rk a1 a0 hb ha, feq_rk a1 a0 hb ha, nA, nB]
          by_cases e : rk a1 = rk a0
          · right; simp [e]
          · left; simp; omega
        · right; unfold sameB; simp [hne]
        · unfold orderB; rw [if_pos c]
      · have e1 : maxB a0 a1 = a0 := by unfold maxB; rw [nA, nB, if_neg (by simp), if_neg c]
        have e2 : minB a0 a1 = a1 := by
          unfold minB; rw [nA, nB, if_neg (by simp)]
          split
          · rfl
          · exact placeB_inj a0 a1 ha hb (by omega)
        have hr : rk a1 ≤ rk a0 := by
          by_cases c2 : placeB a1 < placeB a0
          · exact rk_place a1 a0 hb ha c2
          · rw [placeB_inj a0 a1 ha hb (by omega)]; omega
        refine (core a0 a1 a0 a1 w ha hb f1 f2 e1 (by rw [cx, e1]) e2 (by rw [cy, e2]) ha hb ?_ ?_ (orderB a1 a0) rfl ?_).mono fun e w' h => fin e w' h
        · rw [fgt_rk a0 a1 ha hb, feq_rk a0 a1 ha hb, nA, nB]
          by_cases e : rk a0 = rk a1
          · right; simp [e]
          · left; simp; omega
        · left; unfold sameB; simp
        · have := orderB_gt a1 a0
          omega
    · rw [nA] at f1; rw [nB] at f2
      have e1 : maxB a0 a1 = quiet := by unfold maxB; rw [nA, nB, if_pos (by simp)]
      have e2 : minB a0 a1 = quiet := by unfold minB; rw [nA, nB, if_pos (by simp)]
      exact (nans a0 a1 w ha hb (.inr ⟨f1, f2⟩) e1 (by rw [cx, e1]; rfl) e2 (by rw [cy, e2]; rfl)).mono fun e w' h => fin e w' h
  · rw [nA] at f1
    have e1 : maxB a0 a1 = quiet := by unfold maxB; rw [nA, if_pos (by simp)]
    have e2 : minB a0 a1 = quiet := by unfold minB; rw [nA, if_pos (by simp)]
    exact (nans a0 a1 w ha hb (.inl f1) e1 (by rw [cx, e1]; rfl) e2 (by rw [cy, e2]; rfl)).mono fun e w' h => fin e w' h

set_option maxRecDepth 100000 in
theorem lifted (os : Os) (started : os.Started) (H : Type) (enc : TypeId × Value → H) :
    ReturnsInHanded {} Try.checked os 6 .any (Rows.bitsMaxMinSpec.pre6 enc Try.prog Try.f6 Rows.bitsMaxMinRow.domain false) (Rows.bitsMaxMinSpec.post enc Try.prog Try.f6 false true false false) := by
  refine returnsInHanded_of_change (C := Try.checked) own started (by kernel_rfl) Try.func6
    (ChangeSpec.witness6 (enc := enc) (C := Try.checked) false ⟨#[], #[.float .f64 0, .float .f64 0], []⟩ 8 (by kernel_rfl) (by kernel_rfl) (by kernel_rfl) (by kernel_rfl)) ?_
  intro W base args ds gs before hval0 hW hcnd _
  have hval : ∀ (j : Nat) t v, Try.f6.params[j]? = some t → args[j]? = some v → Value.okWide Try.prog W .any base t v := hval0
  have hW' := hW
  obtain ⟨p, q, hA0, hV, rfl, hfz, hnd⟩ := hW
  have hA : DataW.TrodAll enc Try.prog W 0 (fun _ => true) true Try.f6.params.toList args.toList ds p := hA0
  rw [Try.params6] at hA hval
  obtain ⟨v0, vs0, d0, ds0, p0, q0, hargs, rfl, rfl, h0, r0⟩ := trodAll_cons hA
  obtain ⟨v1, vs1, d1, ds1, p1, q1, rfl, rfl, rfl, h1, r1⟩ := trodAll_cons r0
  obtain ⟨rfl, rfl, rfl⟩ := trodAll_nil r1
  obtain rfl : args = #[v0, v1] := by cases args; simp_all
  obtain ⟨rfl, rfl⟩ := trodVars_none hV
  obtain ⟨a0, rfl, rfl, rfl, w0⟩ := open_float Try.underlying25 (hval 0 25 v0 rfl rfl) h0
  obtain ⟨a1, rfl, rfl, rfl, w1⟩ := open_float Try.underlying25 (hval 1 25 v1 rfl rfl) h1
  clear hA0 hval0
  simp only [List.append_nil] at hW'
  refine (walk a0 a1 w0 w1 W).mono fun e W' ⟨he, hg⟩ => ?_
  subst he
  exact ⟨_, rfl, post_of_same (pa := []) (pv := []) hW' (fun _ _ _ => (trodAll_cons_mk (shut_bool Try.underlying4 _) trodAll_mk0)) (fun sp _ => (trodAll_cons_mk (shut_float Try.underlying25 w0) (trodAll_cons_mk (shut_float Try.underlying25 w1) trodAll_mk0))) (fun _ _ => rfl) rfl
    (hg.frame _) hg.2.1 (ok_one (by kernel_rfl) rfl (okWide_bool_mk Try.underlying4 _))⟩

theorem over : Rows.bitsMaxMinRow.holds Try.pinned (OpenSpec.ofChange Rows.bitsMaxMinSpec) :=
  OpenClaim.holds_of_wide 6 Try.f6 rfl rfl rfl rfl rfl rfl rfl ⟨rfl, rfl, rfl, rfl, rfl⟩ rfl rfl rfl rfl rfl (by kernel_rfl) Try.func6 (by kernel_rfl)
    (of_decide_eq_true (by kernel_rfl)) (by unfold Func.isWrapper; first | (rw [if_pos (by decide +kernel)]; kernel_rfl) | (rw [if_neg (by decide +kernel)]; exact ⟨rfl, rfl⟩))
    (fun os started H enc _ => lifted os started H enc)

end Go.Proofs.Ytedobmladjhdkaa.bitsMaxMinDone
namespace Go.Proofs.Ytedobmladjhdkaa
theorem bitsMaxMin_holds : Rows.BitsMaxMinSaid := bitsMaxMinDone.over
#print axioms bitsMaxMin_holds
end Go.Proofs.Ytedobmladjhdkaa
