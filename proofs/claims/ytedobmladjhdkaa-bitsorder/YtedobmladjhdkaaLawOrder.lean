/-
  For every three floats, of any bits, the call of the statement on Order returns true and leaves its arguments as they were.
-/
import Derived.Test.YtedobmladjhdkaaRows
import Derived.Test.YtedobmladjhdkaaWd
import Derived.ProofKit
import Derived.OpenShut
import Derived.WalkLawsBesides
namespace Go.Proofs.Ytedobmladjhdkaa.bitsOrderDone
open Go.ChangeShapes Go.WideShapes Go.ChangeAt Go.RowKit

theorem own : ownKnob Try.prog.godebug = none := by kernel_rfl

open Tf
attribute [local go_sem] run_bits run_from raw_feq raw_fne raw_flt raw_fgt run_neg
theorem placeB_inj (a b : Nat) (ha : a < 18446744073709551616) (hb : b < 18446744073709551616) (h : placeB a = placeB b) : a = b := by
  unfold placeB at h
  cases hna : ng a <;> cases hnb : ng b <;> rw [hna, hnb] at h <;> simp only [Bool.false_eq_true, if_false, if_true] at h
  · omega
  · have := lt_of_ng hna; have := ge_of_ng hnb; omega
  · have := ge_of_ng hna; have := lt_of_ng hnb; omega
  · omega
theorem lit_lt {x : Nat} (h : (Lit.float .f64 x).wf = true) : x < 18446744073709551616 := by
  simpa [Lit.wf] using h
theorem feq_self (x : Nat) (hx : x < 18446744073709551616) : feq x x = !isN x := by
  rw [feq_rk x x hx hx]; cases isN x <;> simp
theorem rk_place (a b : Nat) (ha : a < 18446744073709551616) (hb : b < 18446744073709551616) : (placeB a < placeB b ↔ rk a < rk b ∨ (rk a = rk b ∧ ng a = true ∧ ng b = false)) ∧ (placeB a = placeB b → rk a = rk b) := by
  unfold placeB rk
  have wa := word_eq a ha
  have wb := word_eq b hb
  have ma := mg_lt a
  have mb := mg_lt b
  cases hna : ng a <;> cases hnb : ng b <;> rw [hna] at wa <;> rw [hnb] at wb <;> simp only [Bool.false_eq_true, Bool.true_eq_false, if_false, if_true, and_true, and_false, or_false] at wa wb ⊢ <;> omega

/-- what is behind the tests on Order alone: NaNs, two noughts, or < and > -/
def tailOk (a b : Nat) (n : Int) : Prop :=
  feq a a = false ∨ (feq a a = true ∧ feq b b = false) ∨ (feq a a = true ∧ feq b b = true ∧ feq a 0 = true ∧ feq b 0 = true) ∨
  (feq a a = true ∧ feq b b = true ∧ feq a 0 = true ∧ feq b 0 = false ∧ flt a b = decide (n < 0) ∧ fgt a b = decide (0 < n)) ∨
  (feq a a = true ∧ feq b b = true ∧ feq a 0 = false ∧ flt a b = decide (n < 0) ∧ fgt a b = decide (0 < n))

set_option maxHeartbeats 1000000 in
theorem n1 (a b c : Nat) (o2 o3 : Int) (w : World) (ha : a < 18446744073709551616) (hb : b < 18446744073709551616) (_hc : c < 18446744073709551616)
    (h1 : Hid (orderB a b = 1)) (h2 : Hid (orderB b a = -1)) (h3 : Hid (sameB a b = false)) (h4 : Hid (orderB a a = 0)) (_h5 : Hid (orderB b c = o2)) (_h6 : Hid (orderB a c = o3))
    (ht : Hid (tailOk a b (1))) :
    Calls Try.prog 5 #[.float .f64 a, .float .f64 b, .float .f64 c] w fun e w' => e = .returned (.bool true) ∧ w' = w := by
  rcases ht.out with f | ⟨f, g⟩ | ⟨f, g, z, z'⟩ | ⟨f, g, z, z', l, m⟩ | ⟨f, g, z, l, m⟩
  · clear ht
    go_enter Try.func5, Try.ntmps5
    go_wp2_with fail
    refine (lives_any _).mono ?_
    rintro e w' ⟨rfl, rfl⟩
    go_wp2_with fail
    refine (ord_at a b 1 _ ha hb h1.out).mono ?_
    rintro e w' ⟨rfl, rfl⟩
    go_wp2_with fail
    refine (ord_at b a (-1) _ hb ha h2.out).mono ?_
    rintro e w' ⟨rfl, rfl⟩
    go_wp2_with fail
    refine (same_at a b false _ h3.out).mono ?_
    rintro e w' ⟨rfl, rfl⟩
    go_wp2_with fail
    refine (ord_at a a 0 _ ha ha h4.out).mono ?_
    rintro e w' ⟨rfl, rfl⟩
    go_wp2
    go_ret
    exact ⟨rfl, rfl⟩
  · clear ht
    go_enter Try.func5, Try.ntmps5
    go_wp2_with fail
    refine (lives_any _).mono ?_
    rintro e w' ⟨rfl, rfl⟩
    go_wp2_with fail
    refine (ord_at a b 1 _ ha hb h1.out).mono ?_
    rintro e w' ⟨rfl, rfl⟩
    go_wp2_with fail
    refine (ord_at b a (-1) _ hb ha h2.out).mono ?_
    rintro e w' ⟨rfl, rfl⟩
    go_wp2_with fail
    refine (same_at a b false _ h3.out).mono ?_
    rintro e w' ⟨rfl, rfl⟩
    go_wp2_with fail
    refine (ord_at a a 0 _ ha ha h4.out).mono ?_
    rintro e w' ⟨rfl, rfl⟩
    go_wp2
    go_ret
    exact ⟨rfl, rfl⟩
  · clear ht
    go_enter Try.func5, Try.ntmps5
    go_wp2_with fail
    refine (lives_any _).mono ?_
    rintro e w' ⟨rfl, rfl⟩
    go_wp2_with fail
    refine (ord_at a b 1 _ ha hb h1.out).mono ?_
    rintro e w' ⟨rfl, rfl⟩
    go_wp2_with fail
    refine (ord_at b a (-1) _ hb ha h2.out).mono ?_
    rintro e w' ⟨rfl, rfl⟩
    go_wp2_with fail
    refine (same_at a b false _ h3.out).mono ?_
    rintro e w' ⟨rfl, rfl⟩
    go_wp2_with fail
    refine (ord_at a a 0 _ ha ha h4.out).mono ?_
    rintro e w' ⟨rfl, rfl⟩
    go_wp2
    go_ret
    exact ⟨rfl, rfl⟩
  · clear ht
    simp at l m
    go_enter Try.func5, Try.ntmps5
    go_wp2_with fail
    refine (lives_any _).mono ?_
    rintro e w' ⟨rfl, rfl⟩
    go_wp2_with fail
    refine (ord_at a b 1 _ ha hb h1.out).mono ?_
    rintro e w' ⟨rfl, rfl⟩
    go_wp2_with fail
    refine (ord_at b a (-1) _ hb ha h2.out).mono ?_
    rintro e w' ⟨rfl, rfl⟩
    go_wp2_with fail
    refine (same_at a b false _ h3.out).mono ?_
    rintro e w' ⟨rfl, rfl⟩
    go_wp2_with fail
    refine (ord_at a a 0 _ ha ha h4.out).mono ?_
    rintro e w' ⟨rfl, rfl⟩
    go_wp2
    go_ret
    exact ⟨rfl, rfl⟩
  · clear ht
    simp at l m
    go_enter Try.func5, Try.ntmps5
    go_wp2_with fail
    refine (lives_any _).mono ?_
    rintro e w' ⟨rfl, rfl⟩
    go_wp2_with fail
    refine (ord_at a b 1 _ ha hb h1.out).mono ?_
    rintro e w' ⟨rfl, rfl⟩
    go_wp2_with fail
    refine (ord_at b a (-1) _ hb ha h2.out).mono ?_
    rintro e w' ⟨rfl, rfl⟩
    go_wp2_with fail
    refine (same_at a b false _ h3.out).mono ?_
    rintro e w' ⟨rfl, rfl⟩
    go_wp2_with fail
    refine (ord_at a a 0 _ ha ha h4.out).mono ?_
    rintro e w' ⟨rfl, rfl⟩
    go_wp2
    go_ret
    exact ⟨rfl, rfl⟩

set_option maxHeartbeats 1000000 in
theorem n0p (a b c : Nat) (o2 o3 : Int) (w : World) (ha : a < 18446744073709551616) (hb : b < 18446744073709551616) (hc : c < 18446744073709551616)
    (h1 : Hid (orderB a b = 0)) (h2 : Hid (orderB b a = 0)) (h3 : Hid (sameB a b = true)) (h4 : Hid (orderB a a = 0)) (h5 : Hid (orderB b c = o2)) (_h6 : Hid (orderB a c = o3))
    (e2 : 0 < o2)
    (ht : Hid (tailOk a b (0))) :
    Calls Try.prog 5 #[.float .f64 a, .float .f64 b, .float .f64 c] w fun e w' => e = .returned (.bool true) ∧ w' = w := by
  rcases ht.out with f | ⟨f, g⟩ | ⟨f, g, z, z'⟩ | ⟨f, g, z, z', l, m⟩ | ⟨f, g, z, l, m⟩
  · clear ht
    go_enter Try.func5, Try.ntmps5
    go_wp2_with fail
    refine (lives_any _).mono ?_
    rintro e w' ⟨rfl, rfl⟩
    go_wp2_with fail
    refine (ord_at a b 0 _ ha hb h1.out).mono ?_
    rintro e w' ⟨rfl, rfl⟩
    go_wp2_with fail
    refine (ord_at b a 0 _ hb ha h2.out).mono ?_
    rintro e w' ⟨rfl, rfl⟩
    go_wp2_with fail
    refine (same_at a b true _ h3.out).mono ?_
    rintro e w' ⟨rfl, rfl⟩
    go_wp2_with fail
    refine (ord_at a a 0 _ ha ha h4.out).mono ?_
    rintro e w' ⟨rfl, rfl⟩
    go_wp2_with fail
    refine (ord_at b c o2 _ hb hc h5.out).mono ?_
    rintro e w' ⟨rfl, rfl⟩
    go_wp2
    go_ret
    exact ⟨rfl, rfl⟩
  · clear ht
    go_enter Try.func5, Try.ntmps5
    go_wp2_with fail
    refine (lives_any _).mono ?_
    rintro e w' ⟨rfl, rfl⟩
    go_wp2_with fail
    refine (ord_at a b 0 _ ha hb h1.out).mono ?_
    rintro e w' ⟨rfl, rfl⟩
    go_wp2_with fail
    refine (ord_at b a 0 _ hb ha h2.out).mono ?_
    rintro e w' ⟨rfl, rfl⟩
    go_wp2_with fail
    refine (same_at a b true _ h3.out).mono ?_
    rintro e w' ⟨rfl, rfl⟩
    go_wp2_with fail
    refine (ord_at a a 0 _ ha ha h4.out).mono ?_
    rintro e w' ⟨rfl, rfl⟩
    go_wp2_with fail
    refine (ord_at b c o2 _ hb hc h5.out).mono ?_
    rintro e w' ⟨rfl, rfl⟩
    go_wp2
    go_ret
    exact ⟨rfl, rfl⟩
  · clear ht
    go_enter Try.func5, Try.ntmps5
    go_wp2_with fail
    refine (lives_any _).mono ?_
    rintro e w' ⟨rfl, rfl⟩
    go_wp2_with fail
    refine (ord_at a b 0 _ ha hb h1.out).mono ?_
    rintro e w' ⟨rfl, rfl⟩
    go_wp2_with fail
    refine (ord_at b a 0 _ hb ha h2.out).mono ?_
    rintro e w' ⟨rfl, rfl⟩
    go_wp2_with fail
    refine (same_at a b true _ h3.out).mono ?_
    rintro e w' ⟨rfl, rfl⟩
    go_wp2_with fail
    refine (ord_at a a 0 _ ha ha h4.out).mono ?_
    rintro e w' ⟨rfl, rfl⟩
    go_wp2_with fail
    refine (ord_at b c o2 _ hb hc h5.out).mono ?_
    rintro e w' ⟨rfl, rfl⟩
    go_wp2
    go_ret
    exact ⟨rfl, rfl⟩
  · clear ht
    simp at l m
    go_enter Try.func5, Try.ntmps5
    go_wp2_with fail
    refine (lives_any _).mono ?_
    rintro e w' ⟨rfl, rfl⟩
    go_wp2_with fail
    refine (ord_at a b 0 _ ha hb h1.out).mono ?_
    rintro e w' ⟨rfl, rfl⟩
    go_wp2_with fail
    refine (ord_at b a 0 _ hb ha h2.out).mono ?_
    rintro e w' ⟨rfl, rfl⟩
    go_wp2_with fail
    refine (same_at a b true _ h3.out).mono ?_
    rintro e w' ⟨rfl, rfl⟩
    go_wp2_with fail
    refine (ord_at a a 0 _ ha ha h4.out).mono ?_
    rintro e w' ⟨rfl, rfl⟩
    go_wp2_with fail
    refine (ord_at b c o2 _ hb hc h5.out).mono ?_
    rintro e w' ⟨rfl, rfl⟩
    go_wp2
    go_ret
    exact ⟨rfl, rfl⟩
  · clear ht
    simp at l m
    go_enter Try.func5, Try.ntmps5
    go_wp2_with fail
    refine (lives_any _).mono ?_
    rintro e w' ⟨rfl, rfl⟩
    go_wp2_with fail
    refine (ord_at a b 0 _ ha hb h1.out).mono ?_
    rintro e w' ⟨rfl, rfl⟩
    go_wp2_with fail
    refine (ord_at b a 0 _ hb ha h2.out).mono ?_
    rintro e w' ⟨rfl, rfl⟩
    go_wp2_with fail
    refine (same_at a b true _ h3.out).mono ?_
    rintro e w' ⟨rfl, rfl⟩
    go_wp2_with fail
    refine (ord_at a a 0 _ ha ha h4.out).mono ?_
    rintro e w' ⟨rfl, rfl⟩
    go_wp2_with fail
    refine (ord_at b c o2 _ hb hc h5.out).mono ?_
    rintro e w' ⟨rfl, rfl⟩
    go_wp2
    go_ret
    exact ⟨rfl, rfl⟩

set_option maxHeartbeats 1000000 in
theorem n0n (a b c : Nat) (o2 o3 : Int) (w : World) (ha : a < 18446744073709551616) (hb : b < 18446744073709551616) (hc : c < 18446744073709551616)
    (h1 : Hid (orderB a b = 0)) (h2 : Hid (orderB b a = 0)) (h3 : Hid (sameB a b = true)) (h4 : Hid (orderB a a = 0)) (h5 : Hid (orderB b c = o2)) (h6 : Hid (orderB a c = o3))
    (e2 : o2 ≤ 0) (e3 : o3 ≤ 0)
    (ht : Hid (tailOk a b (0))) :
    Calls Try.prog 5 #[.float .f64 a, .float .f64 b, .float .f64 c] w fun e w' => e = .returned (.bool true) ∧ w' = w := by
  rcases ht.out with f | ⟨f, g⟩ | ⟨f, g, z, z'⟩ | ⟨f, g, z, z', l, m⟩ | ⟨f, g, z, l, m⟩
  · clear ht
    go_enter Try.func5, Try.ntmps5
    go_wp2_with fail
    refine (lives_any _).mono ?_
    rintro e w' ⟨rfl, rfl⟩
    go_wp2_with fail
    refine (ord_at a b 0 _ ha hb h1.out).mono ?_
    rintro e w' ⟨rfl, rfl⟩
    go_wp2_with fail
    refine (ord_at b a 0 _ hb ha h2.out).mono ?_
    rintro e w' ⟨rfl, rfl⟩
    go_wp2_with fail
    refine (same_at a b true _ h3.out).mono ?_
    rintro e w' ⟨rfl, rfl⟩
    go_wp2_with fail
    refine (ord_at a a 0 _ ha ha h4.out).mono ?_
    rintro e w' ⟨rfl, rfl⟩
    go_wp2_with fail
    refine (ord_at b c o2 _ hb hc h5.out).mono ?_
    rintro e w' ⟨rfl, rfl⟩
    go_wp2_with fail
    refine (ord_at a c o3 _ ha hc h6.out).mono ?_
    rintro e w' ⟨rfl, rfl⟩
    go_wp2
    go_ret
    exact ⟨rfl, rfl⟩
  · clear ht
    go_enter Try.func5, Try.ntmps5
    go_wp2_with fail
    refine (lives_any _).mono ?_
    rintro e w' ⟨rfl, rfl⟩
    go_wp2_with fail
    refine (ord_at a b 0 _ ha hb h1.out).mono ?_
    rintro e w' ⟨rfl, rfl⟩
    go_wp2_with fail
    refine (ord_at b a 0 _ hb ha h2.out).mono ?_
    rintro e w' ⟨rfl, rfl⟩
    go_wp2_with fail
    refine (same_at a b true _ h3.out).mono ?_
    rintro e w' ⟨rfl, rfl⟩
    go_wp2_with fail
    refine (ord_at a a 0 _ ha ha h4.out).mono ?_
    rintro e w' ⟨rfl, rfl⟩
    go_wp2_with fail
    refine (ord_at b c o2 _ hb hc h5.out).mono ?_
    rintro e w' ⟨rfl, rfl⟩
    go_wp2_with fail
    refine (ord_at a c o3 _ ha hc h6.out).mono ?_
    rintro e w' ⟨rfl, rfl⟩
    go_wp2
    go_ret
    exact ⟨rfl, rfl⟩
  · clear ht
    go_enter Try.func5, Try.ntmps5
    go_wp2_with fail
    refine (lives_any _).mono ?_
    rintro e w' ⟨rfl, rfl⟩
    go_wp2_with fail
    refine (ord_at a b 0 _ ha hb h1.out).mono ?_
    rintro e w' ⟨rfl, rfl⟩
    go_wp2_with fail
    refine (ord_at b a 0 _ hb ha h2.out).mono ?_
    rintro e w' ⟨rfl, rfl⟩
    go_wp2_with fail
    refine (same_at a b true _ h3.out).mono ?_
    rintro e w' ⟨rfl, rfl⟩
    go_wp2_with fail
    refine (ord_at a a 0 _ ha ha h4.out).mono ?_
    rintro e w' ⟨rfl, rfl⟩
    go_wp2_with fail
    refine (ord_at b c o2 _ hb hc h5.out).mono ?_
    rintro e w' ⟨rfl, rfl⟩
    go_wp2_with fail
    refine (ord_at a c o3 _ ha hc h6.out).mono ?_
    rintro e w' ⟨rfl, rfl⟩
    go_wp2
    go_ret
    exact ⟨rfl, rfl⟩
  · clear ht
    simp at l m
    go_enter Try.func5, Try.ntmps5
    go_wp2_with fail
    refine (lives_any _).mono ?_
    rintro e w' ⟨rfl, rfl⟩
    go_wp2_with fail
    refine (ord_at a b 0 _ ha hb h1.out).mono ?_
    rintro e w' ⟨rfl, rfl⟩
    go_wp2_with fail
    refine (ord_at b a 0 _ hb ha h2.out).mono ?_
    rintro e w' ⟨rfl, rfl⟩
    go_wp2_with fail
    refine (same_at a b true _ h3.out).mono ?_
    rintro e w' ⟨rfl, rfl⟩
    go_wp2_with fail
    refine (ord_at a a 0 _ ha ha h4.out).mono ?_
    rintro e w' ⟨rfl, rfl⟩
    go_wp2_with fail
    refine (ord_at b c o2 _ hb hc h5.out).mono ?_
    rintro e w' ⟨rfl, rfl⟩
    go_wp2_with fail
    refine (ord_at a c o3 _ ha hc h6.out).mono ?_
    rintro e w' ⟨rfl, rfl⟩
    go_wp2
    go_ret
    exact ⟨rfl, rfl⟩
  · clear ht
    simp at l m
    go_enter Try.func5, Try.ntmps5
    go_wp2_with fail
    refine (lives_any _).mono ?_
    rintro e w' ⟨rfl, rfl⟩
    go_wp2_with fail
    refine (ord_at a b 0 _ ha hb h1.out).mono ?_
    rintro e w' ⟨rfl, rfl⟩
    go_wp2_with fail
    refine (ord_at b a 0 _ hb ha h2.out).mono ?_
    rintro e w' ⟨rfl, rfl⟩
    go_wp2_with fail
    refine (same_at a b true _ h3.out).mono ?_
    rintro e w' ⟨rfl, rfl⟩
    go_wp2_with fail
    refine (ord_at a a 0 _ ha ha h4.out).mono ?_
    rintro e w' ⟨rfl, rfl⟩
    go_wp2_with fail
    refine (ord_at b c o2 _ hb hc h5.out).mono ?_
    rintro e w' ⟨rfl, rfl⟩
    go_wp2_with fail
    refine (ord_at a c o3 _ ha hc h6.out).mono ?_
    rintro e w' ⟨rfl, rfl⟩
    go_wp2
    go_ret
    exact ⟨rfl, rfl⟩

set_option maxHeartbeats 1000000 in
theorem m1p (a b c : Nat) (o2 o3 : Int) (w : World) (ha : a < 18446744073709551616) (hb : b < 18446744073709551616) (hc : c < 18446744073709551616)
    (h1 : Hid (orderB a b = -1)) (h2 : Hid (orderB b a = 1)) (h3 : Hid (sameB a b = false)) (h4 : Hid (orderB a a = 0)) (h5 : Hid (orderB b c = o2)) (_h6 : Hid (orderB a c = o3))
    (e2 : 0 < o2)
    (ht : Hid (tailOk a b (-1))) :
    Calls Try.prog 5 #[.float .f64 a, .float .f64 b, .float .f64 c] w fun e w' => e = .returned (.bool true) ∧ w' = w := by
  rcases ht.out with f | ⟨f, g⟩ | ⟨f, g, z, z'⟩ | ⟨f, g, z, z', l, m⟩ | ⟨f, g, z, l, m⟩
  · clear ht
    go_enter Try.func5, Try.ntmps5
    go_wp2_with fail
    refine (lives_any _).mono ?_
    rintro e w' ⟨rfl, rfl⟩
    go_wp2_with fail
    refine (ord_at a b (-1) _ ha hb h1.out).mono ?_
    rintro e w' ⟨rfl, rfl⟩
    go_wp2_with fail
    refine (ord_at b a 1 _ hb ha h2.out).mono ?_
    rintro e w' ⟨rfl, rfl⟩
    go_wp2_with fail
    refine (same_at a b false _ h3.out).mono ?_
    rintro e w' ⟨rfl, rfl⟩
    go_wp2_with fail
    refine (ord_at a a 0 _ ha ha h4.out).mono ?_
    rintro e w' ⟨rfl, rfl⟩
    go_wp2_with fail
    refine (ord_at b c o2 _ hb hc h5.out).mono ?_
    rintro e w' ⟨rfl, rfl⟩
    go_wp2
    go_ret
    exact ⟨rfl, rfl⟩
  · clear ht
    go_enter Try.func5, Try.ntmps5
    go_wp2_with fail
    refine (lives_any _).mono ?_
    rintro e w' ⟨rfl, rfl⟩
    go_wp2_with fail
    refine (ord_at a b (-1) _ ha hb h1.out).mono ?_
    rintro e w' ⟨rfl, rfl⟩
    go_wp2_with fail
    refine (ord_at b a 1 _ hb ha h2.out).mono ?_
    rintro e w' ⟨rfl, rfl⟩
    go_wp2_with fail
    refine (same_at a b false _ h3.out).mono ?_
    rintro e w' ⟨rfl, rfl⟩
    go_wp2_with fail
    refine (ord_at a a 0 _ ha ha h4.out).mono ?_
    rintro e w' ⟨rfl, rfl⟩
    go_wp2_with fail
    refine (ord_at b c o2 _ hb hc h5.out).mono ?_
    rintro e w' ⟨rfl, rfl⟩
    go_wp2
    go_ret
    exact ⟨rfl, rfl⟩
  · clear ht
    go_enter Try.func5, Try.ntmps5
    go_wp2_with fail
    refine (lives_any _).mono ?_
    rintro e w' ⟨rfl, rfl⟩
    go_wp2_with fail
    refine (ord_at a b (-1) _ ha hb h1.out).mono ?_
    rintro e w' ⟨rfl, rfl⟩
    go_wp2_with fail
    refine (ord_at b a 1 _ hb ha h2.out).mono ?_
    rintro e w' ⟨rfl, rfl⟩
    go_wp2_with fail
    refine (same_at a b false _ h3.out).mono ?_
    rintro e w' ⟨rfl, rfl⟩
    go_wp2_with fail
    refine (ord_at a a 0 _ ha ha h4.out).mono ?_
    rintro e w' ⟨rfl, rfl⟩
    go_wp2_with fail
    refine (ord_at b c o2 _ hb hc h5.out).mono ?_
    rintro e w' ⟨rfl, rfl⟩
    go_wp2
    go_ret
    exact ⟨rfl, rfl⟩
  · clear ht
    simp at l m
    go_enter Try.func5, Try.ntmps5
    go_wp2_with fail
    refine (lives_any _).mono ?_
    rintro e w' ⟨rfl, rfl⟩
    go_wp2_with fail
    refine (ord_at a b (-1) _ ha hb h1.out).mono ?_
    rintro e w' ⟨rfl, rfl⟩
    go_wp2_with fail
    refine (ord_at b a 1 _ hb ha h2.out).mono ?_
    rintro e w' ⟨rfl, rfl⟩
    go_wp2_with fail
    refine (same_at a b false _ h3.out).mono ?_
    rintro e w' ⟨rfl, rfl⟩
    go_wp2_with fail
    refine (ord_at a a 0 _ ha ha h4.out).mono ?_
    rintro e w' ⟨rfl, rfl⟩
    go_wp2_with fail
    refine (ord_at b c o2 _ hb hc h5.out).mono ?_
    rintro e w' ⟨rfl, rfl⟩
    go_wp2
    go_ret
    exact ⟨rfl, rfl⟩
  · clear ht
    simp at l m
    go_enter Try.func5, Try.ntmps5
    go_wp2_with fail
    refine (lives_any _).mono ?_
    rintro e w' ⟨rfl, rfl⟩
    go_wp2_with fail
    refine (ord_at a b (-1) _ ha hb h1.out).mono ?_
    rintro e w' ⟨rfl, rfl⟩
    go_wp2_with fail
    refine (ord_at b a 1 _ hb ha h2.out).mono ?_
    rintro e w' ⟨rfl, rfl⟩
    go_wp2_with fail
    refine (same_at a b false _ h3.out).mono ?_
    rintro e w' ⟨rfl, rfl⟩
    go_wp2_with fail
    refine (ord_at a a 0 _ ha ha h4.out).mono ?_
    rintro e w' ⟨rfl, rfl⟩
    go_wp2_with fail
    refine (ord_at b c o2 _ hb hc h5.out).mono ?_
    rintro e w' ⟨rfl, rfl⟩
    go_wp2
    go_ret
    exact ⟨rfl, rfl⟩

set_option maxHeartbeats 1000000 in
theorem m1n (a b c : Nat) (o2 o3 : Int) (w : World) (ha : a < 18446744073709551616) (hb : b < 18446744073709551616) (hc : c < 18446744073709551616)
    (h1 : Hid (orderB a b = -1)) (h2 : Hid (orderB b a = 1)) (h3 : Hid (sameB a b = false)) (h4 : Hid (orderB a a = 0)) (h5 : Hid (orderB b c = o2)) (h6 : Hid (orderB a c = o3))
    (e2 : o2 ≤ 0) (e3 : o3 ≤ 0)
    (ht : Hid (tailOk a b (-1))) :
    Calls Try.prog 5 #[.float .f64 a, .float .f64 b, .float .f64 c] w fun e w' => e = .returned (.bool true) ∧ w' = w := by
  rcases ht.out with f | ⟨f, g⟩ | ⟨f, g, z, z'⟩ | ⟨f, g, z, z', l, m⟩ | ⟨f, g, z, l, m⟩
  · clear ht
    go_enter Try.func5, Try.ntmps5
    go_wp2_with fail
    refine (lives_any _).mono ?_
    rintro e w' ⟨rfl, rfl⟩
    go_wp2_with fail
    refine (ord_at a b (-1) _ ha hb h1.out).mono ?_
    rintro e w' ⟨rfl, rfl⟩
    go_wp2_with fail
    refine (ord_at b a 1 _ hb ha h2.out).mono ?_
    rintro e w' ⟨rfl, rfl⟩
    go_wp2_with fail
    refine (same_at a b false _ h3.out).mono ?_
    rintro e w' ⟨rfl, rfl⟩
    go_wp2_with fail
    refine (ord_at a a 0 _ ha ha h4.out).mono ?_
    rintro e w' ⟨rfl, rfl⟩
    go_wp2_with fail
    refine (ord_at b c o2 _ hb hc h5.out).mono ?_
    rintro e w' ⟨rfl, rfl⟩
    go_wp2_with fail
    refine (ord_at a c o3 _ ha hc h6.out).mono ?_
    rintro e w' ⟨rfl, rfl⟩
    go_wp2
    go_ret
    exact ⟨rfl, rfl⟩
  · clear ht
    go_enter Try.func5, Try.ntmps5
    go_wp2_with fail
    refine (lives_any _).mono ?_
    rintro e w' ⟨rfl, rfl⟩
    go_wp2_with fail
    refine (ord_at a b (-1) _ ha hb h1.out).mono ?_
    rintro e w' ⟨rfl, rfl⟩
    go_wp2_with fail
    refine (ord_at b a 1 _ hb ha h2.out).mono ?_
    rintro e w' ⟨rfl, rfl⟩
    go_wp2_with fail
    refine (same_at a b false _ h3.out).mono ?_
    rintro e w' ⟨rfl, rfl⟩
    go_wp2_with fail
    refine (ord_at a a 0 _ ha ha h4.out).mono ?_
    rintro e w' ⟨rfl, rfl⟩
    go_wp2_with fail
    refine (ord_at b c o2 _ hb hc h5.out).mono ?_
    rintro e w' ⟨rfl, rfl⟩
    go_wp2_with fail
    refine (ord_at a c o3 _ ha hc h6.out).mono ?_
    rintro e w' ⟨rfl, rfl⟩
    go_wp2
    go_ret
    exact ⟨rfl, rfl⟩
  · clear ht
    go_enter Try.func5, Try.ntmps5
    go_wp2_with fail
    refine (lives_any _).mono ?_
    rintro e w' ⟨rfl, rfl⟩
    go_wp2_with fail
    refine (ord_at a b (-1) _ ha hb h1.out).mono ?_
    rintro e w' ⟨rfl, rfl⟩
    go_wp2_with fail
    refine (ord_at b a 1 _ hb ha h2.out).mono ?_
    rintro e w' ⟨rfl, rfl⟩
    go_wp2_with fail
    refine (same_at a b false _ h3.out).mono ?_
    rintro e w' ⟨rfl, rfl⟩
    go_wp2_with fail
    refine (ord_at a a 0 _ ha ha h4.out).mono ?_
    rintro e w' ⟨rfl, rfl⟩
    go_wp2_with fail
    refine (ord_at b c o2 _ hb hc h5.out).mono ?_
    rintro e w' ⟨rfl, rfl⟩
    go_wp2_with fail
    refine (ord_at a c o3 _ ha hc h6.out).mono ?_
    rintro e w' ⟨rfl, rfl⟩
    go_wp2
    go_ret
    exact ⟨rfl, rfl⟩
  · clear ht
    simp at l m
    go_enter Try.func5, Try.ntmps5
    go_wp2_with fail
    refine (lives_any _).mono ?_
    rintro e w' ⟨rfl, rfl⟩
    go_wp2_with fail
    refine (ord_at a b (-1) _ ha hb h1.out).mono ?_
    rintro e w' ⟨rfl, rfl⟩
    go_wp2_with fail
    refine (ord_at b a 1 _ hb ha h2.out).mono ?_
    rintro e w' ⟨rfl, rfl⟩
    go_wp2_with fail
    refine (same_at a b false _ h3.out).mono ?_
    rintro e w' ⟨rfl, rfl⟩
    go_wp2_with fail
    refine (ord_at a a 0 _ ha ha h4.out).mono ?_
    rintro e w' ⟨rfl, rfl⟩
    go_wp2_with fail
    refine (ord_at b c o2 _ hb hc h5.out).mono ?_
    rintro e w' ⟨rfl, rfl⟩
    go_wp2_with fail
    refine (ord_at a c o3 _ ha hc h6.out).mono ?_
    rintro e w' ⟨rfl, rfl⟩
    go_wp2
    go_ret
    exact ⟨rfl, rfl⟩
  · clear ht
    simp at l m
    go_enter Try.func5, Try.ntmps5
    go_wp2_with fail
    refine (lives_any _).mono ?_
    rintro e w' ⟨rfl, rfl⟩
    go_wp2_with fail
    refine (ord_at a b (-1) _ ha hb h1.out).mono ?_
    rintro e w' ⟨rfl, rfl⟩
    go_wp2_with fail
    refine (ord_at b a 1 _ hb ha h2.out).mono ?_
    rintro e w' ⟨rfl, rfl⟩
    go_wp2_with fail
    refine (same_at a b false _ h3.out).mono ?_
    rintro e w' ⟨rfl, rfl⟩
    go_wp2_with fail
    refine (ord_at a a 0 _ ha ha h4.out).mono ?_
    rintro e w' ⟨rfl, rfl⟩
    go_wp2_with fail
    refine (ord_at b c o2 _ hb hc h5.out).mono ?_
    rintro e w' ⟨rfl, rfl⟩
    go_wp2_with fail
    refine (ord_at a c o3 _ ha hc h6.out).mono ?_
    rintro e w' ⟨rfl, rfl⟩
    go_wp2
    go_ret
    exact ⟨rfl, rfl⟩

theorem walk (a0 : Nat) (a1 : Nat) (a2 : Nat) (w0 : (Lit.float .f64 a0).wf = true) (w1 : (Lit.float .f64 a1).wf = true) (w2 : (Lit.float .f64 a2).wf = true) (w : World) :
    Calls Try.prog 5 #[.float .f64 a0, .float .f64 a1, .float .f64 a2] w fun e w' => e = .returned (.bool true) ∧ Grown w w' := by
  have ha := lit_lt w0
  have hb := lit_lt w1
  have hc := lit_lt w2
  have fin : ∀ e w', (e = Ending.returned (.bool true) ∧ w' = w) → (e = Ending.returned (.bool true) ∧ Grown w w') := by
    rintro e w' ⟨h, rfl⟩; exact ⟨h, Grown.refl _⟩
  have haa : orderB a0 a0 = 0 := by unfold orderB; rw [if_neg (by omega), if_neg (by omega)]
  have tail : ∀ n, orderB a0 a1 = n → tailOk a0 a1 n := by
    intro n hn
    unfold tailOk
    rw [feq_self a0 ha, feq_self a1 hb, feq_zero a0 ha, feq_zero a1 hb, flt_rk a0 a1 ha hb, fgt_rk a0 a1 ha hb]
    have q := rk_place a0 a1 ha hb
    have q' := rk_place a1 a0 hb ha
    have l := orderB_lt a0 a1
    have g := orderB_gt a0 a1
    rw [hn] at l g
    cases nA : isN a0
    · cases nB : isN a1
      · by_cases z : mg a0 = 0
        · by_cases z' : mg a1 = 0
          · right; right; left; simp [z, z']
          · right; right; right; left
            have ne : ¬ rk a0 = rk a1 := by unfold rk; rw [z]; split <;> split <;> omega
            simp only [z, z', Bool.not_false, Bool.and_self, Bool.true_and, decide_true, decide_false, true_and]
            constructor
            · apply decide_eq_decide.2; rw [l, q.1]; omega
            · apply decide_eq_decide.2; rw [g, q'.1]; omega
        · right; right; right; right
          have ne : rk a0 = rk a1 → ng a0 = ng a1 := by
            intro h; unfold rk at h
            cases hna : ng a0 <;> cases hnb : ng a1 <;> rw [hna, hnb] at h <;> simp only [Bool.false_eq_true, if_false, if_true] at h <;> first | rfl | omega
          have ne1 : rk a0 = rk a1 → ng a0 = true → ng a1 = false → False := by
            intro h h1 h2; rw [ne h, h2] at h1; cases h1
          have ne2 : rk a1 = rk a0 → ng a1 = true → ng a0 = false → False := by
            intro h h1 h2; rw [← ne h.symm, h2] at h1; cases h1
          simp only [z, Bool.not_false, Bool.and_self, Bool.true_and, decide_false, true_and]
          constructor
          · apply decide_eq_decide.2; rw [l, q.1]
            exact ⟨fun h => .inl h, fun h => h.elim id fun h => (ne1 h.1 h.2.1 h.2.2).elim⟩
          · apply decide_eq_decide.2; rw [g, q'.1]
            exact ⟨fun h => .inl h, fun h => h.elim id fun h => (ne2 h.1 h.2.1 h.2.2).elim⟩
      · right; left; simp
    · left; simp
  by_cases c1 : placeB a0 < placeB a1
  · have e1 : orderB a0 a1 = -1 := by unfold orderB; rw [if_pos c1]
    have e2 : orderB a1 a0 = 1 := by unfold orderB; rw [if_neg (by omega), if_pos c1]
    have e3 : sameB a0 a1 = false := by unfold sameB; apply decide_eq_false; intro h; rw [h] at c1; omega
    by_cases c2 : 0 < orderB a1 a2
    · exact (m1p a0 a1 a2 _ _ w ha hb hc e1 e2 e3 haa rfl rfl c2 (tail _ e1)).mono fun e w' h => fin e w' h
    · have g1 := orderB_gt a1 a2
      have g2 := orderB_gt a0 a2
      exact (m1n a0 a1 a2 _ _ w ha hb hc e1 e2 e3 haa rfl rfl (by omega) (by omega) (tail _ e1)).mono fun e w' h => fin e w' h
  · by_cases c3 : placeB a1 < placeB a0
    · have e1 : orderB a0 a1 = 1 := by unfold orderB; rw [if_neg c1, if_pos c3]
      have e2 : orderB a1 a0 = -1 := by unfold orderB; rw [if_pos c3]
      have e3 : sameB a0 a1 = false := by unfold sameB; apply decide_eq_false; intro h; rw [h] at c1 c3; omega
      exact (n1 a0 a1 a2 _ _ w ha hb hc e1 e2 e3 haa rfl rfl (tail _ e1)).mono fun e w' h => fin e w' h
    · have e0 := placeB_inj a0 a1 ha hb (by omega)
      have e1 : orderB a0 a1 = 0 := by unfold orderB; rw [if_neg c1, if_neg c3]
      have e2 : orderB a1 a0 = 0 := by unfold orderB; rw [if_neg c3, if_neg c1]
      have e3 : sameB a0 a1 = true := by unfold sameB; exact decide_eq_true e0
      by_cases c2 : 0 < orderB a1 a2
      · exact (n0p a0 a1 a2 _ _ w ha hb hc e1 e2 e3 haa rfl rfl c2 (tail _ e1)).mono fun e w' h => fin e w' h
      · have g1 := orderB_gt a1 a2
        have g2 := orderB_gt a0 a2
        exact (n0n a0 a1 a2 _ _ w ha hb hc e1 e2 e3 haa rfl rfl (by omega) (by omega) (tail _ e1)).mono fun e w' h => fin e w' h

set_option maxRecDepth 100000 in
theorem lifted (os : Os) (started : os.Started) (H : Type) (enc : TypeId × Value → H) :
    ReturnsInHanded {} Try.checked os 5 .any (Rows.bitsOrderSpec.pre6 enc Try.prog Try.f5 Rows.bitsOrderRow.domain false) (Rows.bitsOrderSpec.post enc Try.prog Try.f5 false true false false) := by
  refine returnsInHanded_of_change (C := Try.checked) own started (by kernel_rfl) Try.func5
    (ChangeSpec.witness6 (enc := enc) (C := Try.checked) false ⟨#[], #[.float .f64 0, .float .f64 0, .float .f64 0], []⟩ 8 (by kernel_rfl) (by kernel_rfl) (by kernel_rfl) (by kernel_rfl)) ?_
  intro W base args ds gs before hval0 hW hcnd _
  have hval : ∀ (j : Nat) t v, Try.f5.params[j]? = some t → args[j]? = some v → Value.okWide Try.prog W .any base t v := hval0
  have hW' := hW
  obtain ⟨p, q, hA0, hV, rfl, hfz, hnd⟩ := hW
  have hA : DataW.TrodAll enc Try.prog W 0 (fun _ => true) true Try.f5.params.toList args.toList ds p := hA0
  rw [Try.params5] at hA hval
  obtain ⟨v0, vs0, d0, ds0, p0, q0, hargs, rfl, rfl, h0, r0⟩ := trodAll_cons hA
  obtain ⟨v1, vs1, d1, ds1, p1, q1, rfl, rfl, rfl, h1, r1⟩ := trodAll_cons r0
  obtain ⟨v2, vs2, d2, ds2, p2, q2, rfl, rfl, rfl, h2, r2⟩ := trodAll_cons r1
  obtain ⟨rfl, rfl, rfl⟩ := trodAll_nil r2
  obtain rfl : args = #[v0, v1, v2] := by cases args; simp_all
  obtain ⟨rfl, rfl⟩ := trodVars_none hV
  obtain ⟨a0, rfl, rfl, rfl, w0⟩ := open_float Try.underlying25 (hval 0 25 v0 rfl rfl) h0
  obtain ⟨a1, rfl, rfl, rfl, w1⟩ := open_float Try.underlying25 (hval 1 25 v1 rfl rfl) h1
  obtain ⟨a2, rfl, rfl, rfl, w2⟩ := open_float Try.underlying25 (hval 2 25 v2 rfl rfl) h2
  clear hA0 hval0
  simp only [List.append_nil] at hW'
  refine (walk a0 a1 a2 w0 w1 w2 W).mono fun e W' ⟨he, hg⟩ => ?_
  subst he
  exact ⟨_, rfl, post_of_same (pa := []) (pv := []) hW' (fun _ _ _ => (trodAll_cons_mk (shut_bool Try.underlying4 _) trodAll_mk0)) (fun sp _ => (trodAll_cons_mk (shut_float Try.underlying25 w0) (trodAll_cons_mk (shut_float Try.underlying25 w1) (trodAll_cons_mk (shut_float Try.underlying25 w2) trodAll_mk0)))) (fun _ _ => rfl) rfl
    (hg.frame _) hg.2.1 (ok_one (by kernel_rfl) rfl (okWide_bool_mk Try.underlying4 _))⟩

theorem over : Rows.bitsOrderRow.holds Try.pinned (OpenSpec.ofChange Rows.bitsOrderSpec) :=
  OpenClaim.holds_of_wide 5 Try.f5 rfl rfl rfl rfl rfl rfl rfl ⟨rfl, rfl, rfl, rfl, rfl⟩ rfl rfl rfl rfl rfl (by kernel_rfl) Try.func5 (by kernel_rfl)
    (of_decide_eq_true (by kernel_rfl)) (by unfold Func.isWrapper; first | (rw [if_pos (by decide +kernel)]; kernel_rfl) | (rw [if_neg (by decide +kernel)]; exact ⟨rfl, rfl⟩))
    (fun os started H enc _ => lifted os started H enc)

end Go.Proofs.Ytedobmladjhdkaa.bitsOrderDone
namespace Go.Proofs.Ytedobmladjhdkaa
theorem bitsOrder_holds : Rows.BitsOrderSaid := bitsOrderDone.over
#print axioms bitsOrder_holds
end Go.Proofs.Ytedobmladjhdkaa
