/-
  The statement on sums of three, in every order: by plain numbers, and walks over the program.
-/
import Derived.Test.YtflkbjcaajchjaaSg
namespace Go.Proofs.Ytflkbjcaajchjaa
open Go.RowKit Tf
attribute [local go_sem] run_bits run_from raw_feq raw_fne raw_flt raw_fgt run_neg

theorem tri {a b : Nat} (ha : a < 18446744073709551616) (hb : b < 18446744073709551616) : (key a < key b ∧ ¬ key b < key a) ∨ a = b ∨ (key b < key a ∧ ¬ key a < key b) := by
  rcases Nat.lt_trichotomy (key a) (key b) with h | h | h
  · exact .inl ⟨h, by omega⟩
  · exact .inr (.inl (key_inj ha hb h))
  · exact .inr (.inr ⟨h, by omega⟩)
theorem thB_23 {a b c : Nat} (ha : a < 18446744073709551616) (hb : b < 18446744073709551616) (hc : c < 18446744073709551616) : thB a b c = thB a c b := by
  rcases tri ha hb with ⟨h1, h1'⟩ | h1 | ⟨h1, h1'⟩ <;> rcases tri ha hc with ⟨h2, h2'⟩ | h2 | ⟨h2, h2'⟩ <;> rcases tri hb hc with ⟨h3, h3'⟩ | h3 | ⟨h3, h3'⟩
  all_goals first
    | (exfalso; omega)
    | (clear ha hb hc; simp [thB, loB, hiB, *]; done)
    | (clear ha hb hc; subst_vars; first | rfl | (simp [thB, loB, hiB, *]; done))
/-- the three in order -/
theorem th_perm (a b c : Nat) : ∃ u v z, thB a b c = plB (plB u v) z ∧ ((u = a ∧ v = b ∧ z = c) ∨ (u = a ∧ v = c ∧ z = b) ∨ (u = b ∧ v = a ∧ z = c) ∨ (u = b ∧ v = c ∧ z = a) ∨ (u = c ∧ v = a ∧ z = b) ∨ (u = c ∧ v = b ∧ z = a)) := by
  unfold thB
  by_cases k1 : key b < key a
  · have lk1 : loB a b = b := by unfold loB; rw [if_pos k1]
    have gk1 : hiB a b = a := by unfold hiB; rw [if_pos k1]
    rw [lk1, gk1]
    by_cases k2 : key c < key a
    · have lk2 : loB a c = c := by unfold loB; rw [if_pos k2]
      have gk2 : hiB a c = a := by unfold hiB; rw [if_pos k2]
      rw [lk2, gk2]
      by_cases k3 : key c < key b
      · have lk3 : loB b c = c := by unfold loB; rw [if_pos k3]
        have gk3 : hiB b c = b := by unfold hiB; rw [if_pos k3]
        rw [lk3, gk3]
        exact ⟨_, _, _, rfl, by simp⟩
      · have lk3 : loB b c = b := by unfold loB; rw [if_neg k3]
        have gk3 : hiB b c = c := by unfold hiB; rw [if_neg k3]
        rw [lk3, gk3]
        exact ⟨_, _, _, rfl, by simp⟩
    · have lk2 : loB a c = a := by unfold loB; rw [if_neg k2]
      have gk2 : hiB a c = c := by unfold hiB; rw [if_neg k2]
      rw [lk2, gk2]
      by_cases k3 : key a < key b
      · have lk3 : loB b a = a := by unfold loB; rw [if_pos k3]
        have gk3 : hiB b a = b := by unfold hiB; rw [if_pos k3]
        rw [lk3, gk3]
        exact ⟨_, _, _, rfl, by simp⟩
      · have lk3 : loB b a = b := by unfold loB; rw [if_neg k3]
        have gk3 : hiB b a = a := by unfold hiB; rw [if_neg k3]
        rw [lk3, gk3]
        exact ⟨_, _, _, rfl, by simp⟩
  · have lk1 : loB a b = a := by unfold loB; rw [if_neg k1]
    have gk1 : hiB a b = b := by unfold hiB; rw [if_neg k1]
    rw [lk1, gk1]
    by_cases k2 : key c < key b
    · have lk2 : loB b c = c := by unfold loB; rw [if_pos k2]
      have gk2 : hiB b c = b := by unfold hiB; rw [if_pos k2]
      rw [lk2, gk2]
      by_cases k3 : key c < key a
      · have lk3 : loB a c = c := by unfold loB; rw [if_pos k3]
        have gk3 : hiB a c = a := by unfold hiB; rw [if_pos k3]
        rw [lk3, gk3]
        exact ⟨_, _, _, rfl, by simp⟩
      · have lk3 : loB a c = a := by unfold loB; rw [if_neg k3]
        have gk3 : hiB a c = c := by unfold hiB; rw [if_neg k3]
        rw [lk3, gk3]
        exact ⟨_, _, _, rfl, by simp⟩
    · have lk2 : loB b c = b := by unfold loB; rw [if_neg k2]
      have gk2 : hiB b c = c := by unfold hiB; rw [if_neg k2]
      rw [lk2, gk2]
      by_cases k3 : key b < key a
      · have lk3 : loB a b = b := by unfold loB; rw [if_pos k3]
        have gk3 : hiB a b = a := by unfold hiB; rw [if_pos k3]
        rw [lk3, gk3]
        exact ⟨_, _, _, rfl, by simp⟩
      · have lk3 : loB a b = a := by unfold loB; rw [if_neg k3]
        have gk3 : hiB a b = b := by unfold hiB; rw [if_neg k3]
        rw [lk3, gk3]
        exact ⟨_, _, _, rfl, by simp⟩
theorem th_nan (a b c : Nat) (h : isN a = true ∨ isN b = true ∨ isN c = true) : thB a b c = quiet := by
  obtain ⟨u, v, z, e, hp⟩ := th_perm a b c
  rw [e]
  have hn : isN u = true ∨ isN v = true ∨ isN z = true := by
    rcases hp with ⟨rfl, rfl, rfl⟩ | ⟨rfl, rfl, rfl⟩ | ⟨rfl, rfl, rfl⟩ | ⟨rfl, rfl, rfl⟩ | ⟨rfl, rfl, rfl⟩ | ⟨rfl, rfl, rfl⟩ <;> (rcases h with h | h | h <;> simp [h])
  rcases hn with h | h | h
  · have e1 : plB u v = quiet := plB_none (add_nan u v (.inl h))
    rw [e1]; exact plB_none (add_nan _ _ (.inl quiet_N))
  · have e1 : plB u v = quiet := plB_none (add_nan u v (.inr h))
    rw [e1]; exact plB_none (add_nan _ _ (.inl quiet_N))
  · exact plB_none (add_nan _ _ (.inr h))
/-- not a NaN, and not below nothing -/
def Pos (x : Nat) : Prop := x < 18446744073709551616 ∧ isN x = false ∧ 0 ≤ rk x
theorem rk_mg {x : Nat} (h : 0 ≤ rk x) : rk x = (mg x : Int) := by
  unfold rk at h ⊢
  cases hn : ng x
  · rfl
  · rw [hn, if_pos rfl] at h
    rw [if_pos rfl]
    omega
theorem sv_pos {x : Nat} (h : 0 ≤ rk x) : sv x = (mv (mg x) : Int) := by
  unfold rk at h
  unfold sv
  cases hn : ng x
  · rfl
  · rw [hn] at h
    have : mg x = 0 := by simp at h; omega
    rw [this]
    decide
theorem rk_rn5 (z : Bool) (v : Int) (h : 0 ≤ v) : rk (rn z v) = ((min (rung 52 0 v.natAbs) 9218868437227405312 : Nat) : Int) := by
  have hm := rn_mg z v
  by_cases c : v = 0
  · subst c
    rw [rn_zero]
    have : rung 52 0 (0 : Int).natAbs = 0 := by decide +kernel
    rw [this]
    cases z <;> decide
  · have hn : ng (rn z v) = false := by
      unfold rn
      rw [if_neg c, decide_eq_false (by omega), if_neg (by decide)]
      refine ng_of_lt ?_
      generalize rung 52 0 v.natAbs = r
      omega
    unfold rk
    rw [hn, if_neg (by decide), hm]
theorem pl_ge {x y : Nat} (hx : Pos x) (hy : Pos y) : Pos (plB x y) ∧ rk x ≤ rk (plB x y) ∧ rk y ≤ rk (plB x y) := by
  obtain ⟨x1, x2, x3⟩ := hx
  obtain ⟨y1, y2, y3⟩ := hy
  have bx := rk_bound x x2
  have by' := rk_bound y y2
  have hmx := rk_mg x3
  have hmy := rk_mg y3
  rcases three x with fx | fx | fx
  · rcases three y with fy | fy | fy
    · have e := plB_some (add_d x y x1 y1 fx fy)
      have sx := sv_pos x3
      have sy := sv_pos y3
      have hk := rk_rn5 (ng x && ng y) (sv x + sv y) (by omega)
      have m1 : rung 52 0 (mv (mg x)) ≤ rung 52 0 (sv x + sv y).natAbs := rung_mono (by decide) (by omega)
      have m2 : rung 52 0 (mv (mg y)) ≤ rung 52 0 (sv x + sv y).natAbs := rung_mono (by decide) (by omega)
      rw [rung_mv] at m1 m2
      obtain ⟨r, hr⟩ : ∃ r, rung 52 0 (sv x + sv y).natAbs = r := ⟨_, rfl⟩
      rw [hr] at m1 m2 hk
      have h5 : rk (plB x y) = ((min r 9218868437227405312 : Nat) : Int) := by rw [e]; exact hk
      have l1 : mg x ≤ min r 9218868437227405312 := by omega
      have l2 : mg y ≤ min r 9218868437227405312 := by omega
      have hN : isN (plB x y) = false := by rw [e]; exact isN_rn _ _
      have hL : plB x y < 18446744073709551616 := by rw [e]; exact rn_lt _ _
      clear e hk hr sx sy m1 m2
      generalize min r 9218868437227405312 = q at *
      refine ⟨⟨hL, hN, ?_⟩, ?_, ?_⟩
      · rw [h5]; omega
      · rw [h5, hmx]; omega
      · rw [h5, hmy]; omega
    · have hn : ng y = false := by
        cases hn : ng y
        · rfl
        · unfold rk at y3; rw [hn, if_pos rfl] at y3; omega
      have e := plB_some (add_fi x y y1 fx fy)
      rw [hn] at e
      have hk : rk (infW false) = 9218868437227405312 := by decide
      rw [e, hk]
      exact ⟨⟨by decide, by decide, by rw [hk]; decide⟩, bx.2, by'.2⟩
    · rw [fy] at y2; cases y2
  · have hn : ng x = false := by
      cases hn : ng x
      · rfl
      · unfold rk at x3; rw [hn, if_pos rfl] at x3; omega
    have hk : rk (infW false) = 9218868437227405312 := by decide
    rcases three y with fy | fy | fy
    · have e := plB_some (add_if x y x1 fx fy)
      rw [hn] at e
      rw [e, hk]
      exact ⟨⟨by decide, by decide, by rw [hk]; decide⟩, bx.2, by'.2⟩
    · have hn2 : ng y = false := by
        cases hn : ng y
        · rfl
        · unfold rk at y3; rw [hn, if_pos rfl] at y3; omega
      have e0 := add_ii x y x1 y1 fx fy
      rw [hn, hn2, if_pos rfl] at e0
      rw [plB_some e0, hk]
      exact ⟨⟨by decide, by decide, by rw [hk]; decide⟩, bx.2, by'.2⟩
    · rw [fy] at y2; cases y2
  · rw [fx] at x2; cases x2
theorem th_ge {a b c : Nat} (ha : Pos a) (hb : Pos b) (hc : Pos c) : Pos (thB a b c) ∧ rk a ≤ rk (thB a b c) ∧ rk b ≤ rk (thB a b c) ∧ rk c ≤ rk (thB a b c) := by
  obtain ⟨u, v, z, e, hp⟩ := th_perm a b c
  have main : ∀ u v z, Pos u → Pos v → Pos z → Pos (plB (plB u v) z) ∧ rk u ≤ rk (plB (plB u v) z) ∧ rk v ≤ rk (plB (plB u v) z) ∧ rk z ≤ rk (plB (plB u v) z) := by
    intro u v z hu hv hz
    obtain ⟨p1, p2, p3⟩ := pl_ge hu hv
    obtain ⟨q1, q2, q3⟩ := pl_ge p1 hz
    exact ⟨q1, by omega, by omega, q3⟩
  rw [e]
  rcases hp with ⟨rfl, rfl, rfl⟩ | ⟨rfl, rfl, rfl⟩ | ⟨rfl, rfl, rfl⟩ | ⟨rfl, rfl, rfl⟩ | ⟨rfl, rfl, rfl⟩ | ⟨rfl, rfl, rfl⟩
  · obtain ⟨m0, m1, m2, m3⟩ := main _ _ _ ha hb hc
    exact ⟨m0, m1, m2, m3⟩
  · obtain ⟨m0, m1, m2, m3⟩ := main _ _ _ ha hc hb
    exact ⟨m0, m1, m3, m2⟩
  · obtain ⟨m0, m1, m2, m3⟩ := main _ _ _ hb ha hc
    exact ⟨m0, m2, m1, m3⟩
  · obtain ⟨m0, m1, m2, m3⟩ := main _ _ _ hb hc ha
    exact ⟨m0, m3, m1, m2⟩
  · obtain ⟨m0, m1, m2, m3⟩ := main _ _ _ hc ha hb
    exact ⟨m0, m2, m3, m1⟩
  · obtain ⟨m0, m1, m2, m3⟩ := main _ _ _ hc hb ha
    exact ⟨m0, m3, m2, m1⟩
theorem fge_of {a b : Nat} (ha : Pos a) (hb : Pos b) (h : rk b ≤ rk a) : (fgt a b || feq a b) = true := by
  rw [fgt_rk a b ha.1 hb.1, feq_rk a b ha.1 hb.1, ha.2.1, hb.2.1, Bool.eq_iff_iff]
  simp
  omega
theorem flt_zero {x : Nat} (hx : x < 18446744073709551616) (hN : isN x = false) : flt x 0 = decide (rk x < 0) := by
  have e : rk 0 = 0 := by decide
  have n : isN 0 = false := by decide
  rw [flt_rk x 0 hx (by decide), hN, n, e]
  simp
set_option maxHeartbeats 4000000 in
set_option maxRecDepth 100000 in
theorem th_n1 (a b c s : Nat) (w : World) (hs : s = 9221120237041090561) (fa : feq a a = false)
    (T0 : Hid (∀ w, Calls Try.prog 17 #[.float .f64 a, .float .f64 b, .float .f64 c] w fun e w' => e = .returned (.float .f64 s) ∧ Hid (Below w.heap.size w w')))
    (T1 : Hid (∀ w, Calls Try.prog 17 #[.float .f64 a, .float .f64 c, .float .f64 b] w fun e w' => e = .returned (.float .f64 s) ∧ Hid (Below w.heap.size w w')))
    (T2 : Hid (∀ w, Calls Try.prog 17 #[.float .f64 b, .float .f64 a, .float .f64 c] w fun e w' => e = .returned (.float .f64 s) ∧ Hid (Below w.heap.size w w')))
    (T3 : Hid (∀ w, Calls Try.prog 17 #[.float .f64 b, .float .f64 c, .float .f64 a] w fun e w' => e = .returned (.float .f64 s) ∧ Hid (Below w.heap.size w w')))
    (T4 : Hid (∀ w, Calls Try.prog 17 #[.float .f64 c, .float .f64 a, .float .f64 b] w fun e w' => e = .returned (.float .f64 s) ∧ Hid (Below w.heap.size w w')))
    (T5 : Hid (∀ w, Calls Try.prog 17 #[.float .f64 c, .float .f64 b, .float .f64 a] w fun e w' => e = .returned (.float .f64 s) ∧ Hid (Below w.heap.size w w'))) :
    Calls Try.prog 4 #[.float .f64 a, .float .f64 b, .float .f64 c] w fun e w' => e = .returned (.bool true) ∧ Hid (Below w.heap.size w w') := by
  have S := hid same5_self
  have R := hid rawBits_any
  go_enter Try.func4, Try.ntmps4
  go_wp2_with fail
  refine (lives_any _).mono ?_
  rintro e w0 ⟨rfl, b0⟩
  go_wp2_with fail
  refine (T0.out _).mono ?_
  rintro e w1 ⟨rfl, c1⟩
  have b1 : Hid (Below w.heap.size w w1) := bthen b0.out c1.out
  clear b0 c1
  go_wp2_with fail
  refine (T1.out _).mono ?_
  rintro e w2 ⟨rfl, c2⟩
  have b2 : Hid (Below w.heap.size w w2) := bthen b1.out c2.out
  clear b1 c2
  go_wp2_with fail
  refine (S.out _ _).mono ?_
  rintro e w' ⟨rfl, rfl⟩
  go_wp2_with fail
  refine (T2.out _).mono ?_
  rintro e w3 ⟨rfl, c3⟩
  have b3 : Hid (Below w.heap.size w w3) := bthen b2.out c3.out
  clear b2 c3
  go_wp2_with fail
  refine (S.out _ _).mono ?_
  rintro e w' ⟨rfl, rfl⟩
  go_wp2_with fail
  refine (T3.out _).mono ?_
  rintro e w4 ⟨rfl, c4⟩
  have b4 : Hid (Below w.heap.size w w4) := bthen b3.out c4.out
  clear b3 c4
  go_wp2_with fail
  refine (S.out _ _).mono ?_
  rintro e w' ⟨rfl, rfl⟩
  go_wp2_with fail
  refine (T4.out _).mono ?_
  rintro e w5 ⟨rfl, c5⟩
  have b5 : Hid (Below w.heap.size w w5) := bthen b4.out c5.out
  clear b4 c5
  go_wp2_with fail
  refine (S.out _ _).mono ?_
  rintro e w' ⟨rfl, rfl⟩
  go_wp2_with fail
  refine (T5.out _).mono ?_
  rintro e w6 ⟨rfl, c6⟩
  have b6 : Hid (Below w.heap.size w w6) := bthen b5.out c6.out
  clear b5 c6
  go_wp2_with fail
  refine (S.out _ _).mono ?_
  rintro e w' ⟨rfl, rfl⟩
  subst hs
  go_wp2_with fail
  refine (R.out _ _).mono ?_
  rintro e w' ⟨rfl, rfl⟩
  go_wp2
  go_ret
  exact ⟨rfl, b6⟩
set_option maxHeartbeats 4000000 in
set_option maxRecDepth 100000 in
theorem th_n2 (a b c s : Nat) (w : World) (hs : s = 9221120237041090561) (fa : feq a a = true) (fb : feq b b = false)
    (T0 : Hid (∀ w, Calls Try.prog 17 #[.float .f64 a, .float .f64 b, .float .f64 c] w fun e w' => e = .returned (.float .f64 s) ∧ Hid (Below w.heap.size w w')))
    (T1 : Hid (∀ w, Calls Try.prog 17 #[.float .f64 a, .float .f64 c, .float .f64 b] w fun e w' => e = .returned (.float .f64 s) ∧ Hid (Below w.heap.size w w')))
    (T2 : Hid (∀ w, Calls Try.prog 17 #[.float .f64 b, .float .f64 a, .float .f64 c] w fun e w' => e = .returned (.float .f64 s) ∧ Hid (Below w.heap.size w w')))
    (T3 : Hid (∀ w, Calls Try.prog 17 #[.float .f64 b, .float .f64 c, .float .f64 a] w fun e w' => e = .returned (.float .f64 s) ∧ Hid (Below w.heap.size w w')))
    (T4 : Hid (∀ w, Calls Try.prog 17 #[.float .f64 c, .float .f64 a, .float .f64 b] w fun e w' => e = .returned (.float .f64 s) ∧ Hid (Below w.heap.size w w')))
    (T5 : Hid (∀ w, Calls Try.prog 17 #[.float .f64 c, .float .f64 b, .float .f64 a] w fun e w' => e = .returned (.float .f64 s) ∧ Hid (Below w.heap.size w w'))) :
    Calls Try.prog 4 #[.float .f64 a, .float .f64 b, .float .f64 c] w fun e w' => e = .returned (.bool true) ∧ Hid (Below w.heap.size w w') := by
  have S := hid same5_self
  have R := hid rawBits_any
  go_enter Try.func4, Try.ntmps4
  go_wp2_with fail
  refine (lives_any _).mono ?_
  rintro e w0 ⟨rfl, b0⟩
  go_wp2_with fail
  refine (T0.out _).mono ?_
  rintro e w1 ⟨rfl, c1⟩
  have b1 : Hid (Below w.heap.size w w1) := bthen b0.out c1.out
  clear b0 c1
  go_wp2_with fail
  refine (T1.out _).mono ?_
  rintro e w2 ⟨rfl, c2⟩
  have b2 : Hid (Below w.heap.size w w2) := bthen b1.out c2.out
  clear b1 c2
  go_wp2_with fail
  refine (S.out _ _).mono ?_
  rintro e w' ⟨rfl, rfl⟩
  go_wp2_with fail
  refine (T2.out _).mono ?_
  rintro e w3 ⟨rfl, c3⟩
  have b3 : Hid (Below w.heap.size w w3) := bthen b2.out c3.out
  clear b2 c3
  go_wp2_with fail
  refine (S.out _ _).mono ?_
  rintro e w' ⟨rfl, rfl⟩
  go_wp2_with fail
  refine (T3.out _).mono ?_
  rintro e w4 ⟨rfl, c4⟩
  have b4 : Hid (Below w.heap.size w w4) := bthen b3.out c4.out
  clear b3 c4
  go_wp2_with fail
  refine (S.out _ _).mono ?_
  rintro e w' ⟨rfl, rfl⟩
  go_wp2_with fail
  refine (T4.out _).mono ?_
  rintro e w5 ⟨rfl, c5⟩
  have b5 : Hid (Below w.heap.size w w5) := bthen b4.out c5.out
  clear b4 c5
  go_wp2_with fail
  refine (S.out _ _).mono ?_
  rintro e w' ⟨rfl, rfl⟩
  go_wp2_with fail
  refine (T5.out _).mono ?_
  rintro e w6 ⟨rfl, c6⟩
  have b6 : Hid (Below w.heap.size w w6) := bthen b5.out c6.out
  clear b5 c6
  go_wp2_with fail
  refine (S.out _ _).mono ?_
  rintro e w' ⟨rfl, rfl⟩
  subst hs
  go_wp2_with fail
  refine (R.out _ _).mono ?_
  rintro e w' ⟨rfl, rfl⟩
  go_wp2
  go_ret
  exact ⟨rfl, b6⟩
set_option maxHeartbeats 4000000 in
set_option maxRecDepth 100000 in
theorem th_n3 (a b c s : Nat) (w : World) (hs : s = 9221120237041090561) (fa : feq a a = true) (fb : feq b b = true) (fc : feq c c = false)
    (T0 : Hid (∀ w, Calls Try.prog 17 #[.float .f64 a, .float .f64 b, .float .f64 c] w fun e w' => e = .returned (.float .f64 s) ∧ Hid (Below w.heap.size w w')))
    (T1 : Hid (∀ w, Calls Try.prog 17 #[.float .f64 a, .float .f64 c, .float .f64 b] w fun e w' => e = .returned (.float .f64 s) ∧ Hid (Below w.heap.size w w')))
    (T2 : Hid (∀ w, Calls Try.prog 17 #[.float .f64 b, .float .f64 a, .float .f64 c] w fun e w' => e = .returned (.float .f64 s) ∧ Hid (Below w.heap.size w w')))
    (T3 : Hid (∀ w, Calls Try.prog 17 #[.float .f64 b, .float .f64 c, .float .f64 a] w fun e w' => e = .returned (.float .f64 s) ∧ Hid (Below w.heap.size w w')))
    (T4 : Hid (∀ w, Calls Try.prog 17 #[.float .f64 c, .float .f64 a, .float .f64 b] w fun e w' => e = .returned (.float .f64 s) ∧ Hid (Below w.heap.size w w')))
    (T5 : Hid (∀ w, Calls Try.prog 17 #[.float .f64 c, .float .f64 b, .float .f64 a] w fun e w' => e = .returned (.float .f64 s) ∧ Hid (Below w.heap.size w w'))) :
    Calls Try.prog 4 #[.float .f64 a, .float .f64 b, .float .f64 c] w fun e w' => e = .returned (.bool true) ∧ Hid (Below w.heap.size w w') := by
  have S := hid same5_self
  have R := hid rawBits_any
  go_enter Try.func4, Try.ntmps4
  go_wp2_with fail
  refine (lives_any _).mono ?_
  rintro e w0 ⟨rfl, b0⟩
  go_wp2_with fail
  refine (T0.out _).mono ?_
  rintro e w1 ⟨rfl, c1⟩
  have b1 : Hid (Below w.heap.size w w1) := bthen b0.out c1.out
  clear b0 c1
  go_wp2_with fail
  refine (T1.out _).mono ?_
  rintro e w2 ⟨rfl, c2⟩
  have b2 : Hid (Below w.heap.size w w2) := bthen b1.out c2.out
  clear b1 c2
  go_wp2_with fail
  refine (S.out _ _).mono ?_
  rintro e w' ⟨rfl, rfl⟩
  go_wp2_with fail
  refine (T2.out _).mono ?_
  rintro e w3 ⟨rfl, c3⟩
  have b3 : Hid (Below w.heap.size w w3) := bthen b2.out c3.out
  clear b2 c3
  go_wp2_with fail
  refine (S.out _ _).mono ?_
  rintro e w' ⟨rfl, rfl⟩
  go_wp2_with fail
  refine (T3.out _).mono ?_
  rintro e w4 ⟨rfl, c4⟩
  have b4 : Hid (Below w.heap.size w w4) := bthen b3.out c4.out
  clear b3 c4
  go_wp2_with fail
  refine (S.out _ _).mono ?_
  rintro e w' ⟨rfl, rfl⟩
  go_wp2_with fail
  refine (T4.out _).mono ?_
  rintro e w5 ⟨rfl, c5⟩
  have b5 : Hid (Below w.heap.size w w5) := bthen b4.out c5.out
  clear b4 c5
  go_wp2_with fail
  refine (S.out _ _).mono ?_
  rintro e w' ⟨rfl, rfl⟩
  go_wp2_with fail
  refine (T5.out _).mono ?_
  rintro e w6 ⟨rfl, c6⟩
  have b6 : Hid (Below w.heap.size w w6) := bthen b5.out c6.out
  clear b5 c6
  go_wp2_with fail
  refine (S.out _ _).mono ?_
  rintro e w' ⟨rfl, rfl⟩
  subst hs
  go_wp2_with fail
  refine (R.out _ _).mono ?_
  rintro e w' ⟨rfl, rfl⟩
  go_wp2
  go_ret
  exact ⟨rfl, b6⟩
set_option maxHeartbeats 4000000 in
set_option maxRecDepth 100000 in
theorem th_l1 (a b c s : Nat) (w : World) (fa : feq a a = true) (fb : feq b b = true) (fc : feq c c = true) (la : flt a 0 = true)
    (T0 : Hid (∀ w, Calls Try.prog 17 #[.float .f64 a, .float .f64 b, .float .f64 c] w fun e w' => e = .returned (.float .f64 s) ∧ Hid (Below w.heap.size w w')))
    (T1 : Hid (∀ w, Calls Try.prog 17 #[.float .f64 a, .float .f64 c, .float .f64 b] w fun e w' => e = .returned (.float .f64 s) ∧ Hid (Below w.heap.size w w')))
    (T2 : Hid (∀ w, Calls Try.prog 17 #[.float .f64 b, .float .f64 a, .float .f64 c] w fun e w' => e = .returned (.float .f64 s) ∧ Hid (Below w.heap.size w w')))
    (T3 : Hid (∀ w, Calls Try.prog 17 #[.float .f64 b, .float .f64 c, .float .f64 a] w fun e w' => e = .returned (.float .f64 s) ∧ Hid (Below w.heap.size w w')))
    (T4 : Hid (∀ w, Calls Try.prog 17 #[.float .f64 c, .float .f64 a, .float .f64 b] w fun e w' => e = .returned (.float .f64 s) ∧ Hid (Below w.heap.size w w')))
    (T5 : Hid (∀ w, Calls Try.prog 17 #[.float .f64 c, .float .f64 b, .float .f64 a] w fun e w' => e = .returned (.float .f64 s) ∧ Hid (Below w.heap.size w w'))) :
    Calls Try.prog 4 #[.float .f64 a, .float .f64 b, .float .f64 c] w fun e w' => e = .returned (.bool true) ∧ Hid (Below w.heap.size w w') := by
  have S := hid same5_self
  have R := hid rawBits_any
  go_enter Try.func4, Try.ntmps4
  go_wp2_with fail
  refine (lives_any _).mono ?_
  rintro e w0 ⟨rfl, b0⟩
  go_wp2_with fail
  refine (T0.out _).mono ?_
  rintro e w1 ⟨rfl, c1⟩
  have b1 : Hid (Below w.heap.size w w1) := bthen b0.out c1.out
  clear b0 c1
  go_wp2_with fail
  refine (T1.out _).mono ?_
  rintro e w2 ⟨rfl, c2⟩
  have b2 : Hid (Below w.heap.size w w2) := bthen b1.out c2.out
  clear b1 c2
  go_wp2_with fail
  refine (S.out _ _).mono ?_
  rintro e w' ⟨rfl, rfl⟩
  go_wp2_with fail
  refine (T2.out _).mono ?_
  rintro e w3 ⟨rfl, c3⟩
  have b3 : Hid (Below w.heap.size w w3) := bthen b2.out c3.out
  clear b2 c3
  go_wp2_with fail
  refine (S.out _ _).mono ?_
  rintro e w' ⟨rfl, rfl⟩
  go_wp2_with fail
  refine (T3.out _).mono ?_
  rintro e w4 ⟨rfl, c4⟩
  have b4 : Hid (Below w.heap.size w w4) := bthen b3.out c4.out
  clear b3 c4
  go_wp2_with fail
  refine (S.out _ _).mono ?_
  rintro e w' ⟨rfl, rfl⟩
  go_wp2_with fail
  refine (T4.out _).mono ?_
  rintro e w5 ⟨rfl, c5⟩
  have b5 : Hid (Below w.heap.size w w5) := bthen b4.out c5.out
  clear b4 c5
  go_wp2_with fail
  refine (S.out _ _).mono ?_
  rintro e w' ⟨rfl, rfl⟩
  go_wp2_with fail
  refine (T5.out _).mono ?_
  rintro e w6 ⟨rfl, c6⟩
  have b6 : Hid (Below w.heap.size w w6) := bthen b5.out c6.out
  clear b5 c6
  go_wp2_with fail
  refine (S.out _ _).mono ?_
  rintro e w' ⟨rfl, rfl⟩
  go_wp2
  go_ret
  exact ⟨rfl, b6⟩
set_option maxHeartbeats 4000000 in
set_option maxRecDepth 100000 in
theorem th_l2 (a b c s : Nat) (w : World) (fa : feq a a = true) (fb : feq b b = true) (fc : feq c c = true) (la : flt a 0 = false) (lb : flt b 0 = true)
    (T0 : Hid (∀ w, Calls Try.prog 17 #[.float .f64 a, .float .f64 b, .float .f64 c] w fun e w' => e = .returned (.float .f64 s) ∧ Hid (Below w.heap.size w w')))
    (T1 : Hid (∀ w, Calls Try.prog 17 #[.float .f64 a, .float .f64 c, .float .f64 b] w fun e w' => e = .returned (.float .f64 s) ∧ Hid (Below w.heap.size w w')))
    (T2 : Hid (∀ w, Calls Try.prog 17 #[.float .f64 b, .float .f64 a, .float .f64 c] w fun e w' => e = .returned (.float .f64 s) ∧ Hid (Below w.heap.size w w')))
    (T3 : Hid (∀ w, Calls Try.prog 17 #[.float .f64 b, .float .f64 c, .float .f64 a] w fun e w' => e = .returned (.float .f64 s) ∧ Hid (Below w.heap.size w w')))
    (T4 : Hid (∀ w, Calls Try.prog 17 #[.float .f64 c, .float .f64 a, .float .f64 b] w fun e w' => e = .returned (.float .f64 s) ∧ Hid (Below w.heap.size w w')))
    (T5 : Hid (∀ w, Calls Try.prog 17 #[.float .f64 c, .float .f64 b, .float .f64 a] w fun e w' => e = .returned (.float .f64 s) ∧ Hid (Below w.heap.size w w'))) :
    Calls Try.prog 4 #[.float .f64 a, .float .f64 b, .float .f64 c] w fun e w' => e = .returned (.bool true) ∧ Hid (Below w.heap.size w w') := by
  have S := hid same5_self
  have R := hid rawBits_any
  go_enter Try.func4, Try.ntmps4
  go_wp2_with fail
  refine (lives_any _).mono ?_
  rintro e w0 ⟨rfl, b0⟩
  go_wp2_with fail
  refine (T0.out _).mono ?_
  rintro e w1 ⟨rfl, c1⟩
  have b1 : Hid (Below w.heap.size w w1) := bthen b0.out c1.out
  clear b0 c1
  go_wp2_with fail
  refine (T1.out _).mono ?_
  rintro e w2 ⟨rfl, c2⟩
  have b2 : Hid (Below w.heap.size w w2) := bthen b1.out c2.out
  clear b1 c2
  go_wp2_with fail
  refine (S.out _ _).mono ?_
  rintro e w' ⟨rfl, rfl⟩
  go_wp2_with fail
  refine (T2.out _).mono ?_
  rintro e w3 ⟨rfl, c3⟩
  have b3 : Hid (Below w.heap.size w w3) := bthen b2.out c3.out
  clear b2 c3
  go_wp2_with fail
  refine (S.out _ _).mono ?_
  rintro e w' ⟨rfl, rfl⟩
  go_wp2_with fail
  refine (T3.out _).mono ?_
  rintro e w4 ⟨rfl, c4⟩
  have b4 : Hid (Below w.heap.size w w4) := bthen b3.out c4.out
  clear b3 c4
  go_wp2_with fail
  refine (S.out _ _).mono ?_
  rintro e w' ⟨rfl, rfl⟩
  go_wp2_with fail
  refine (T4.out _).mono ?_
  rintro e w5 ⟨rfl, c5⟩
  have b5 : Hid (Below w.heap.size w w5) := bthen b4.out c5.out
  clear b4 c5
  go_wp2_with fail
  refine (S.out _ _).mono ?_
  rintro e w' ⟨rfl, rfl⟩
  go_wp2_with fail
  refine (T5.out _).mono ?_
  rintro e w6 ⟨rfl, c6⟩
  have b6 : Hid (Below w.heap.size w w6) := bthen b5.out c6.out
  clear b5 c6
  go_wp2_with fail
  refine (S.out _ _).mono ?_
  rintro e w' ⟨rfl, rfl⟩
  go_wp2
  go_ret
  exact ⟨rfl, b6⟩
set_option maxHeartbeats 4000000 in
set_option maxRecDepth 100000 in
theorem th_l3 (a b c s : Nat) (w : World) (fa : feq a a = true) (fb : feq b b = true) (fc : feq c c = true) (la : flt a 0 = false) (lb : flt b 0 = false) (lc : flt c 0 = true)
    (T0 : Hid (∀ w, Calls Try.prog 17 #[.float .f64 a, .float .f64 b, .float .f64 c] w fun e w' => e = .returned (.float .f64 s) ∧ Hid (Below w.heap.size w w')))
    (T1 : Hid (∀ w, Calls Try.prog 17 #[.float .f64 a, .float .f64 c, .float .f64 b] w fun e w' => e = .returned (.float .f64 s) ∧ Hid (Below w.heap.size w w')))
    (T2 : Hid (∀ w, Calls Try.prog 17 #[.float .f64 b, .float .f64 a, .float .f64 c] w fun e w' => e = .returned (.float .f64 s) ∧ Hid (Below w.heap.size w w')))
    (T3 : Hid (∀ w, Calls Try.prog 17 #[.float .f64 b, .float .f64 c, .float .f64 a] w fun e w' => e = .returned (.float .f64 s) ∧ Hid (Below w.heap.size w w')))
    (T4 : Hid (∀ w, Calls Try.prog 17 #[.float .f64 c, .float .f64 a, .float .f64 b] w fun e w' => e = .returned (.float .f64 s) ∧ Hid (Below w.heap.size w w')))
    (T5 : Hid (∀ w, Calls Try.prog 17 #[.float .f64 c, .float .f64 b, .float .f64 a] w fun e w' => e = .returned (.float .f64 s) ∧ Hid (Below w.heap.size w w'))) :
    Calls Try.prog 4 #[.float .f64 a, .float .f64 b, .float .f64 c] w fun e w' => e = .returned (.bool true) ∧ Hid (Below w.heap.size w w') := by
  have S := hid same5_self
  have R := hid rawBits_any
  go_enter Try.func4, Try.ntmps4
  go_wp2_with fail
  refine (lives_any _).mono ?_
  rintro e w0 ⟨rfl, b0⟩
  go_wp2_with fail
  refine (T0.out _).mono ?_
  rintro e w1 ⟨rfl, c1⟩
  have b1 : Hid (Below w.heap.size w w1) := bthen b0.out c1.out
  clear b0 c1
  go_wp2_with fail
  refine (T1.out _).mono ?_
  rintro e w2 ⟨rfl, c2⟩
  have b2 : Hid (Below w.heap.size w w2) := bthen b1.out c2.out
  clear b1 c2
  go_wp2_with fail
  refine (S.out _ _).mono ?_
  rintro e w' ⟨rfl, rfl⟩
  go_wp2_with fail
  refine (T2.out _).mono ?_
  rintro e w3 ⟨rfl, c3⟩
  have b3 : Hid (Below w.heap.size w w3) := bthen b2.out c3.out
  clear b2 c3
  go_wp2_with fail
  refine (S.out _ _).mono ?_
  rintro e w' ⟨rfl, rfl⟩
  go_wp2_with fail
  refine (T3.out _).mono ?_
  rintro e w4 ⟨rfl, c4⟩
  have b4 : Hid (Below w.heap.size w w4) := bthen b3.out c4.out
  clear b3 c4
  go_wp2_with fail
  refine (S.out _ _).mono ?_
  rintro e w' ⟨rfl, rfl⟩
  go_wp2_with fail
  refine (T4.out _).mono ?_
  rintro e w5 ⟨rfl, c5⟩
  have b5 : Hid (Below w.heap.size w w5) := bthen b4.out c5.out
  clear b4 c5
  go_wp2_with fail
  refine (S.out _ _).mono ?_
  rintro e w' ⟨rfl, rfl⟩
  go_wp2_with fail
  refine (T5.out _).mono ?_
  rintro e w6 ⟨rfl, c6⟩
  have b6 : Hid (Below w.heap.size w w6) := bthen b5.out c6.out
  clear b5 c6
  go_wp2_with fail
  refine (S.out _ _).mono ?_
  rintro e w' ⟨rfl, rfl⟩
  go_wp2
  go_ret
  exact ⟨rfl, b6⟩
set_option maxHeartbeats 4000000 in
set_option maxRecDepth 100000 in
theorem th_ok (a b c s : Nat) (w : World) (fa : feq a a = true) (fb : feq b b = true) (fc : feq c c = true) (la : flt a 0 = false) (lb : flt b 0 = false) (lc : flt c 0 = false) (ga : (fgt s a || feq s a) = true) (gb : (fgt s b || feq s b) = true) (gc : (fgt s c || feq s c) = true)
    (T0 : Hid (∀ w, Calls Try.prog 17 #[.float .f64 a, .float .f64 b, .float .f64 c] w fun e w' => e = .returned (.float .f64 s) ∧ Hid (Below w.heap.size w w')))
    (T1 : Hid (∀ w, Calls Try.prog 17 #[.float .f64 a, .float .f64 c, .float .f64 b] w fun e w' => e = .returned (.float .f64 s) ∧ Hid (Below w.heap.size w w')))
    (T2 : Hid (∀ w, Calls Try.prog 17 #[.float .f64 b, .float .f64 a, .float .f64 c] w fun e w' => e = .returned (.float .f64 s) ∧ Hid (Below w.heap.size w w')))
    (T3 : Hid (∀ w, Calls Try.prog 17 #[.float .f64 b, .float .f64 c, .float .f64 a] w fun e w' => e = .returned (.float .f64 s) ∧ Hid (Below w.heap.size w w')))
    (T4 : Hid (∀ w, Calls Try.prog 17 #[.float .f64 c, .float .f64 a, .float .f64 b] w fun e w' => e = .returned (.float .f64 s) ∧ Hid (Below w.heap.size w w')))
    (T5 : Hid (∀ w, Calls Try.prog 17 #[.float .f64 c, .float .f64 b, .float .f64 a] w fun e w' => e = .returned (.float .f64 s) ∧ Hid (Below w.heap.size w w'))) :
    Calls Try.prog 4 #[.float .f64 a, .float .f64 b, .float .f64 c] w fun e w' => e = .returned (.bool true) ∧ Hid (Below w.heap.size w w') := by
  have S := hid same5_self
  have R := hid rawBits_any
  go_enter Try.func4, Try.ntmps4
  go_wp2_with fail
  refine (lives_any _).mono ?_
  rintro e w0 ⟨rfl, b0⟩
  go_wp2_with fail
  refine (T0.out _).mono ?_
  rintro e w1 ⟨rfl, c1⟩
  have b1 : Hid (Below w.heap.size w w1) := bthen b0.out c1.out
  clear b0 c1
  go_wp2_with fail
  refine (T1.out _).mono ?_
  rintro e w2 ⟨rfl, c2⟩
  have b2 : Hid (Below w.heap.size w w2) := bthen b1.out c2.out
  clear b1 c2
  go_wp2_with fail
  refine (S.out _ _).mono ?_
  rintro e w' ⟨rfl, rfl⟩
  go_wp2_with fail
  refine (T2.out _).mono ?_
  rintro e w3 ⟨rfl, c3⟩
  have b3 : Hid (Below w.heap.size w w3) := bthen b2.out c3.out
  clear b2 c3
  go_wp2_with fail
  refine (S.out _ _).mono ?_
  rintro e w' ⟨rfl, rfl⟩
  go_wp2_with fail
  refine (T3.out _).mono ?_
  rintro e w4 ⟨rfl, c4⟩
  have b4 : Hid (Below w.heap.size w w4) := bthen b3.out c4.out
  clear b3 c4
  go_wp2_with fail
  refine (S.out _ _).mono ?_
  rintro e w' ⟨rfl, rfl⟩
  go_wp2_with fail
  refine (T4.out _).mono ?_
  rintro e w5 ⟨rfl, c5⟩
  have b5 : Hid (Below w.heap.size w w5) := bthen b4.out c5.out
  clear b4 c5
  go_wp2_with fail
  refine (S.out _ _).mono ?_
  rintro e w' ⟨rfl, rfl⟩
  go_wp2_with fail
  refine (T5.out _).mono ?_
  rintro e w6 ⟨rfl, c6⟩
  have b6 : Hid (Below w.heap.size w w6) := bthen b5.out c6.out
  clear b5 c6
  go_wp2_with fail
  refine (S.out _ _).mono ?_
  rintro e w' ⟨rfl, rfl⟩
  go_wp2
  go_ret
  exact ⟨rfl, b6⟩
/-- THREE, IN EVERY ORDER -/
theorem th_walk (a b c : Nat) (w : World) (ha : a < 18446744073709551616) (hb : b < 18446744073709551616) (hc : c < 18446744073709551616) :
    Calls Try.prog 4 #[.float .f64 a, .float .f64 b, .float .f64 c] w fun e w' => e = .returned (.bool true) ∧ Hid (Below w.heap.size w w') := by
  have T0 := hid (fun w => three_at a b c w ha hb hc)
  have T1 := hid (fun w => three_at a c b w ha hc hb)
  have T2 := hid (fun w => three_at b a c w hb ha hc)
  have T3 := hid (fun w => three_at b c a w hb hc ha)
  have T4 := hid (fun w => three_at c a b w hc ha hb)
  have T5 := hid (fun w => three_at c b a w hc hb ha)
  have e1 : thB a c b = thB a b c := thB_23 ha hc hb
  have e2 : thB b a c = thB a b c := thB_12 hb ha
  have e3 : thB b c a = thB a b c := by rw [thB_23 hb hc ha, e2]
  have e4 : thB c a b = thB a b c := by rw [thB_12 hc ha, e1]
  have e5 : thB c b a = thB a b c := by rw [thB_12 hc hb, e3]
  rw [e1] at T1
  rw [e2] at T2
  rw [e3] at T3
  rw [e4] at T4
  rw [e5] at T5
  have fa := feq_selfq a ha
  have fb := feq_selfq b hb
  have fc := feq_selfq c hc
  cases na : isN a
  · rw [na] at fa
    cases nb : isN b
    · rw [nb] at fb
      cases nc : isN c
      · rw [nc] at fc
        have la := flt_zero ha na
        have lb := flt_zero hb nb
        have lc := flt_zero hc nc
        by_cases ka : rk a < 0
        · exact th_l1 a b c _ w fa fb fc (by rw [la]; exact decide_eq_true ka) T0 T1 T2 T3 T4 T5
        have la' : flt a 0 = false := by rw [la]; exact decide_eq_false ka
        by_cases kb : rk b < 0
        · exact th_l2 a b c _ w fa fb fc la' (by rw [lb]; exact decide_eq_true kb) T0 T1 T2 T3 T4 T5
        have lb' : flt b 0 = false := by rw [lb]; exact decide_eq_false kb
        by_cases kc : rk c < 0
        · exact th_l3 a b c _ w fa fb fc la' lb' (by rw [lc]; exact decide_eq_true kc) T0 T1 T2 T3 T4 T5
        have lc' : flt c 0 = false := by rw [lc]; exact decide_eq_false kc
        have pa : Pos a := ⟨ha, na, by omega⟩
        have pb : Pos b := ⟨hb, nb, by omega⟩
        have pc : Pos c := ⟨hc, nc, by omega⟩
        obtain ⟨ps, g1, g2, g3⟩ := th_ge pa pb pc
        exact th_ok a b c _ w fa fb fc la' lb' lc' (fge_of ps pa g1) (fge_of ps pb g2) (fge_of ps pc g3) T0 T1 T2 T3 T4 T5
      · rw [nc] at fc
        exact th_n3 a b c _ w (th_nan a b c (.inr (.inr nc))) fa fb fc T0 T1 T2 T3 T4 T5
    · rw [nb] at fb
      exact th_n2 a b c _ w (th_nan a b c (.inr (.inl nb))) fa fb T0 T1 T2 T3 T4 T5
  · rw [na] at fa
    exact th_n1 a b c _ w (th_nan a b c (.inl na)) fa T0 T1 T2 T3 T4 T5
end Go.Proofs.Ytflkbjcaajchjaa
