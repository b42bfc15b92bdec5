/-
  For every two floats, of any bits, the call of the statement on the sum of two floats and on one product, against the machine's own operations, returns true.
-/
import Derived.Test.YtpnijbdoceladaaRows
import Derived.Test.YtpnijbdoceladaaGz
import Derived.ProofKit
import Derived.OpenShut
import Derived.WalkLawsBesides
import Derived.Below
namespace Go.Proofs.Ytpnijbdoceladaa.accTwoDone
open Go.ChangeShapes Go.WideShapes Go.ChangeAt Go.RowKit

theorem own : ownKnob Try.prog.godebug = none := by kernel_rfl

open Tf
attribute [local go_sem] run_bits run_from raw_feq raw_fne raw_flt raw_fgt run_neg

def twoX (x y : Nat) : Nat → Nat
  | 0 => x
  | _ => y
theorem two_list (x y : Nat) (w : World) (T : TypeId) (hx : x < 18446744073709551616) (hy : y < 18446744073709551616) : IsFl (w.alloc (.cells #[.float .f64 x, .float .f64 y] T)) (some ⟨w.heap.size, 0, none⟩) 2 (twoX x y) := by
  intro k hk
  have : k = 0 ∨ k = 1 := by omega
  rcases this with rfl | rfl
  · exact ⟨hx, w.heap.size, 0, rfl, by simp, by rw [cell_of_row _ _ _ _ _ _ (heap_alloc_new _ _)]; rfl⟩
  · exact ⟨hy, w.heap.size, 0, rfl, by simp, by rw [cell_of_row _ _ _ _ _ _ (heap_alloc_new _ _)]; rfl⟩
theorem sum_two (x y : Nat) : sumS (twoX x y) 2 = stepA (stepA S0 x) y := rfl

set_option maxHeartbeats 4000000 in
theorem go_some_none (x y s p : Nat) (w : World) (ha : Ieee.double.add x y = some s) (hs : feq s s = true) (hm : Ieee.double.mul x y = none) (hp : p = 9221120237041090561) 
    (AW : Hid (∀ w, Calls Try.prog 9 #[] w fun e w' => e = .returned (.bool true) ∧ Hid (Below w.heap.size w w')))
    (SU : Hid (∀ w : World, Calls Try.prog 23 #[.slice (some ⟨w.heap.size, 0, none⟩) 2 2] (w.alloc (.cells #[.float .f64 x, .float .f64 y] 30)) fun e w' => e = .returned (.tuple #[.float .f64 s, .int .i64 0]) ∧ Hid (Below (w.alloc (.cells #[.float .f64 x, .float .f64 y] 30)).heap.size (w.alloc (.cells #[.float .f64 x, .float .f64 y] 30)) w')))
    (PR : Hid (∀ (g : Nat) (w : World), IsAcc g S0 w → Calls Try.prog 14 #[.pointer (some ⟨g, 0, none⟩), .float .f64 x, .float .f64 y] w fun e w' => e = .returned (.int .i64 0) ∧ (Hid (IsAcc g (stepP S0 x y) w') ∧ Hid (But g w w'))))
    (VA : Hid (∀ (g : Nat) (w : World), IsAcc g (stepP S0 x y) w → Calls Try.prog 21 #[.pointer (some ⟨g, 0, none⟩)] w fun e w' => e = .returned (.float .f64 p) ∧ Below w.heap.size w w'))
    (_RB : Hid (∀ (a : Nat) (w : World), Calls Try.prog 25 #[.float .f64 a] w fun e w' => e = .returned (.int .u64 ((a : Nat) : Int)) ∧ w' = w))
    (RF : Hid (∀ (a : Int) (w : World), Calls Try.prog 26 #[.int .u64 a] w fun e w' => e = .returned (.float .f64 a.toNat) ∧ w' = w))
    (RS : Hid (∀ (a : Nat) (w : World), Calls Try.prog 20 #[.float .f64 a, .float .f64 a] w fun e w' => e = .returned (.bool true) ∧ w' = w)) :
    Calls Try.prog 5 #[.float .f64 x, .float .f64 y] w fun e w' => e = .returned (.bool true) ∧ Below w.heap.size w w' := by
  have h1 := fun (ty : TypeId) (w : World) => run_float_arith (P := Try.prog) w .add ty .f64 x y s ha
  have h2 := fun (ty : TypeId) (w : World) => run_nan_mul (P := Try.prog) w ty x y hm
  have n2 := fun (w : World) => feq_nan (nanOf w x y) (nanOf w x y) (.inl (isN_nanOf w x y))
  have n3 := fun (w : World) => feq_nan (nanOf w x y) 0 (.inl (isN_nanOf w x y))
  subst hp
  clear ha hm
  go_enter Try.func5, Try.ntmps5
  go_wp2_with fail
  refine (AW.out _).mono ?_
  rintro e w1 ⟨rfl, b1⟩
  go_wp2_with fail
  refine (SU.out _).mono ?_
  rintro e w2 ⟨rfl, b2⟩
  have B2 : Hid (Below w.heap.size w w2) := (b1.out.alloc b1.out.size _).trans (b2.out.mono (by have := b1.out.size; simp; omega))
  clear b1 b2 AW SU
  go_wp2_with fail
  refine (new_go _).mono ?_
  rintro e w3 ⟨rfl, rfl⟩
  have hs2 := B2.out.size
  have I3 : Hid (IsAcc w2.heap.size S0 (w2.alloc (.cells (encA S0) 56))) := heap_alloc_new _ _
  have B3 : Hid (Below w.heap.size w (w2.alloc (.cells (encA S0) 56))) := B2.out.alloc hs2 _
  obtain ⟨g, hg⟩ : ∃ g, w2.heap.size = g := ⟨_, rfl⟩
  obtain ⟨w3, hw3⟩ : ∃ W, w2.alloc (.cells (encA S0) 56) = W := ⟨_, rfl⟩
  rw [hg] at hs2 I3 ⊢
  rw [hw3] at I3 B3 ⊢
  have HS := hid hs2
  clear hg hw3 B2 hs2
  go_wp2_with fail
  refine (PR.out g _ I3.out).mono ?_
  rintro e w4 ⟨rfl, I4, b4⟩
  have B4 : Hid (Below w.heap.size w w4) := B3.out.trans (b4.out.below HS.out B3.out.size)
  clear B3 b4 I3 PR
  go_wp2_with fail
  refine (VA.out g _ I4.out).mono ?_
  rintro e w5 ⟨rfl, b5⟩
  have B5 : Hid (Below w.heap.size w w5) := B4.out.trans (b5.mono B4.out.size)
  clear B4 b5 I4 VA HS
  go_wp2_with fail
  refine (RF.out _ _).mono ?_
  rintro e w6 ⟨rfl, rfl⟩
  go_wp2_with fail
  refine (RS.out _ _).mono ?_
  rintro e w7 ⟨rfl, rfl⟩
  go_wp2_with fail
  refine (RS.out _ _).mono ?_
  rintro e w8 ⟨rfl, rfl⟩
  go_wp2
  go_ret
  exact ⟨rfl, B5.out.drew⟩

set_option maxHeartbeats 4000000 in
theorem go_some_tiny (x y s p t : Nat) (w : World) (ha : Ieee.double.add x y = some s) (hs : feq s s = true) (hm : Ieee.double.mul x y = some t) (hp : p = 0) (ft : feq t 0 = true) (fx : feq x 0 = false) (fy : feq y 0 = false) 
    (AW : Hid (∀ w, Calls Try.prog 9 #[] w fun e w' => e = .returned (.bool true) ∧ Hid (Below w.heap.size w w')))
    (SU : Hid (∀ w : World, Calls Try.prog 23 #[.slice (some ⟨w.heap.size, 0, none⟩) 2 2] (w.alloc (.cells #[.float .f64 x, .float .f64 y] 30)) fun e w' => e = .returned (.tuple #[.float .f64 s, .int .i64 0]) ∧ Hid (Below (w.alloc (.cells #[.float .f64 x, .float .f64 y] 30)).heap.size (w.alloc (.cells #[.float .f64 x, .float .f64 y] 30)) w')))
    (PR : Hid (∀ (g : Nat) (w : World), IsAcc g S0 w → Calls Try.prog 14 #[.pointer (some ⟨g, 0, none⟩), .float .f64 x, .float .f64 y] w fun e w' => e = .returned (.int .i64 0) ∧ (Hid (IsAcc g (stepP S0 x y) w') ∧ Hid (But g w w'))))
    (VA : Hid (∀ (g : Nat) (w : World), IsAcc g (stepP S0 x y) w → Calls Try.prog 21 #[.pointer (some ⟨g, 0, none⟩)] w fun e w' => e = .returned (.float .f64 p) ∧ Below w.heap.size w w'))
    (RB : Hid (∀ (a : Nat) (w : World), Calls Try.prog 25 #[.float .f64 a] w fun e w' => e = .returned (.int .u64 ((a : Nat) : Int)) ∧ w' = w))
    (_RF : Hid (∀ (a : Int) (w : World), Calls Try.prog 26 #[.int .u64 a] w fun e w' => e = .returned (.float .f64 a.toNat) ∧ w' = w))
    (RS : Hid (∀ (a : Nat) (w : World), Calls Try.prog 20 #[.float .f64 a, .float .f64 a] w fun e w' => e = .returned (.bool true) ∧ w' = w)) :
    Calls Try.prog 5 #[.float .f64 x, .float .f64 y] w fun e w' => e = .returned (.bool true) ∧ Below w.heap.size w w' := by
  have h1 := fun (ty : TypeId) (w : World) => run_float_arith (P := Try.prog) w .add ty .f64 x y s ha
  have h2 := fun (ty : TypeId) (w : World) => run_float_arith (P := Try.prog) w .mul ty .f64 x y t hm
  subst hp
  have z0 : feq 0 0 = true := by decide +kernel
  clear ha hm
  go_enter Try.func5, Try.ntmps5
  go_wp2_with fail
  refine (AW.out _).mono ?_
  rintro e w1 ⟨rfl, b1⟩
  go_wp2_with fail
  refine (SU.out _).mono ?_
  rintro e w2 ⟨rfl, b2⟩
  have B2 : Hid (Below w.heap.size w w2) := (b1.out.alloc b1.out.size _).trans (b2.out.mono (by have := b1.out.size; simp; omega))
  clear b1 b2 AW SU
  go_wp2_with fail
  refine (new_go _).mono ?_
  rintro e w3 ⟨rfl, rfl⟩
  have hs2 := B2.out.size
  have I3 : Hid (IsAcc w2.heap.size S0 (w2.alloc (.cells (encA S0) 56))) := heap_alloc_new _ _
  have B3 : Hid (Below w.heap.size w (w2.alloc (.cells (encA S0) 56))) := B2.out.alloc hs2 _
  obtain ⟨g, hg⟩ : ∃ g, w2.heap.size = g := ⟨_, rfl⟩
  obtain ⟨w3, hw3⟩ : ∃ W, w2.alloc (.cells (encA S0) 56) = W := ⟨_, rfl⟩
  rw [hg] at hs2 I3 ⊢
  rw [hw3] at I3 B3 ⊢
  have HS := hid hs2
  clear hg hw3 B2 hs2
  go_wp2_with fail
  refine (PR.out g _ I3.out).mono ?_
  rintro e w4 ⟨rfl, I4, b4⟩
  have B4 : Hid (Below w.heap.size w w4) := B3.out.trans (b4.out.below HS.out B3.out.size)
  clear B3 b4 I3 PR
  go_wp2_with fail
  refine (VA.out g _ I4.out).mono ?_
  rintro e w5 ⟨rfl, b5⟩
  have B5 : Hid (Below w.heap.size w w5) := B4.out.trans (b5.mono B4.out.size)
  clear B4 b5 I4 VA HS
  go_wp2_with fail
  refine (RB.out _ _).mono ?_
  rintro e w6 ⟨rfl, rfl⟩
  go_wp2_with fail
  refine (RS.out _ _).mono ?_
  rintro e w7 ⟨rfl, rfl⟩
  go_wp2_with fail
  refine (RS.out _ _).mono ?_
  rintro e w8 ⟨rfl, rfl⟩
  go_wp2
  go_ret
  exact ⟨rfl, B5.out⟩

set_option maxHeartbeats 4000000 in
theorem go_some_some1 (x y s p : Nat) (w : World) (ha : Ieee.double.add x y = some s) (hs : feq s s = true) (hm : Ieee.double.mul x y = some p) (f1 : feq p 0 = false) (hpp : feq p p = true) 
    (AW : Hid (∀ w, Calls Try.prog 9 #[] w fun e w' => e = .returned (.bool true) ∧ Hid (Below w.heap.size w w')))
    (SU : Hid (∀ w : World, Calls Try.prog 23 #[.slice (some ⟨w.heap.size, 0, none⟩) 2 2] (w.alloc (.cells #[.float .f64 x, .float .f64 y] 30)) fun e w' => e = .returned (.tuple #[.float .f64 s, .int .i64 0]) ∧ Hid (Below (w.alloc (.cells #[.float .f64 x, .float .f64 y] 30)).heap.size (w.alloc (.cells #[.float .f64 x, .float .f64 y] 30)) w')))
    (PR : Hid (∀ (g : Nat) (w : World), IsAcc g S0 w → Calls Try.prog 14 #[.pointer (some ⟨g, 0, none⟩), .float .f64 x, .float .f64 y] w fun e w' => e = .returned (.int .i64 0) ∧ (Hid (IsAcc g (stepP S0 x y) w') ∧ Hid (But g w w'))))
    (VA : Hid (∀ (g : Nat) (w : World), IsAcc g (stepP S0 x y) w → Calls Try.prog 21 #[.pointer (some ⟨g, 0, none⟩)] w fun e w' => e = .returned (.float .f64 p) ∧ Below w.heap.size w w'))
    (_RB : Hid (∀ (a : Nat) (w : World), Calls Try.prog 25 #[.float .f64 a] w fun e w' => e = .returned (.int .u64 ((a : Nat) : Int)) ∧ w' = w))
    (_RF : Hid (∀ (a : Int) (w : World), Calls Try.prog 26 #[.int .u64 a] w fun e w' => e = .returned (.float .f64 a.toNat) ∧ w' = w))
    (RS : Hid (∀ (a : Nat) (w : World), Calls Try.prog 20 #[.float .f64 a, .float .f64 a] w fun e w' => e = .returned (.bool true) ∧ w' = w)) :
    Calls Try.prog 5 #[.float .f64 x, .float .f64 y] w fun e w' => e = .returned (.bool true) ∧ Below w.heap.size w w' := by
  have h1 := fun (ty : TypeId) (w : World) => run_float_arith (P := Try.prog) w .add ty .f64 x y s ha
  have h2 := fun (ty : TypeId) (w : World) => run_float_arith (P := Try.prog) w .mul ty .f64 x y p hm
  clear ha hm
  go_enter Try.func5, Try.ntmps5
  go_wp2_with fail
  refine (AW.out _).mono ?_
  rintro e w1 ⟨rfl, b1⟩
  go_wp2_with fail
  refine (SU.out _).mono ?_
  rintro e w2 ⟨rfl, b2⟩
  have B2 : Hid (Below w.heap.size w w2) := (b1.out.alloc b1.out.size _).trans (b2.out.mono (by have := b1.out.size; simp; omega))
  clear b1 b2 AW SU
  go_wp2_with fail
  refine (new_go _).mono ?_
  rintro e w3 ⟨rfl, rfl⟩
  have hs2 := B2.out.size
  have I3 : Hid (IsAcc w2.heap.size S0 (w2.alloc (.cells (encA S0) 56))) := heap_alloc_new _ _
  have B3 : Hid (Below w.heap.size w (w2.alloc (.cells (encA S0) 56))) := B2.out.alloc hs2 _
  obtain ⟨g, hg⟩ : ∃ g, w2.heap.size = g := ⟨_, rfl⟩
  obtain ⟨w3, hw3⟩ : ∃ W, w2.alloc (.cells (encA S0) 56) = W := ⟨_, rfl⟩
  rw [hg] at hs2 I3 ⊢
  rw [hw3] at I3 B3 ⊢
  have HS := hid hs2
  clear hg hw3 B2 hs2
  go_wp2_with fail
  refine (PR.out g _ I3.out).mono ?_
  rintro e w4 ⟨rfl, I4, b4⟩
  have B4 : Hid (Below w.heap.size w w4) := B3.out.trans (b4.out.below HS.out B3.out.size)
  clear B3 b4 I3 PR
  go_wp2_with fail
  refine (VA.out g _ I4.out).mono ?_
  rintro e w5 ⟨rfl, b5⟩
  have B5 : Hid (Below w.heap.size w w5) := B4.out.trans (b5.mono B4.out.size)
  clear B4 b5 I4 VA HS
  go_wp2_with fail
  refine (RS.out _ _).mono ?_
  rintro e w7 ⟨rfl, rfl⟩
  go_wp2_with fail
  refine (RS.out _ _).mono ?_
  rintro e w8 ⟨rfl, rfl⟩
  go_wp2
  go_ret
  exact ⟨rfl, B5.out⟩

set_option maxHeartbeats 4000000 in
theorem go_some_some2 (x y s p : Nat) (w : World) (ha : Ieee.double.add x y = some s) (hs : feq s s = true) (hm : Ieee.double.mul x y = some p) (f1 : feq p 0 = true) (f2 : feq x 0 = true) (hpp : feq p p = true) 
    (AW : Hid (∀ w, Calls Try.prog 9 #[] w fun e w' => e = .returned (.bool true) ∧ Hid (Below w.heap.size w w')))
    (SU : Hid (∀ w : World, Calls Try.prog 23 #[.slice (some ⟨w.heap.size, 0, none⟩) 2 2] (w.alloc (.cells #[.float .f64 x, .float .f64 y] 30)) fun e w' => e = .returned (.tuple #[.float .f64 s, .int .i64 0]) ∧ Hid (Below (w.alloc (.cells #[.float .f64 x, .float .f64 y] 30)).heap.size (w.alloc (.cells #[.float .f64 x, .float .f64 y] 30)) w')))
    (PR : Hid (∀ (g : Nat) (w : World), IsAcc g S0 w → Calls Try.prog 14 #[.pointer (some ⟨g, 0, none⟩), .float .f64 x, .float .f64 y] w fun e w' => e = .returned (.int .i64 0) ∧ (Hid (IsAcc g (stepP S0 x y) w') ∧ Hid (But g w w'))))
    (VA : Hid (∀ (g : Nat) (w : World), IsAcc g (stepP S0 x y) w → Calls Try.prog 21 #[.pointer (some ⟨g, 0, none⟩)] w fun e w' => e = .returned (.float .f64 p) ∧ Below w.heap.size w w'))
    (_RB : Hid (∀ (a : Nat) (w : World), Calls Try.prog 25 #[.float .f64 a] w fun e w' => e = .returned (.int .u64 ((a : Nat) : Int)) ∧ w' = w))
    (_RF : Hid (∀ (a : Int) (w : World), Calls Try.prog 26 #[.int .u64 a] w fun e w' => e = .returned (.float .f64 a.toNat) ∧ w' = w))
    (RS : Hid (∀ (a : Nat) (w : World), Calls Try.prog 20 #[.float .f64 a, .float .f64 a] w fun e w' => e = .returned (.bool true) ∧ w' = w)) :
    Calls Try.prog 5 #[.float .f64 x, .float .f64 y] w fun e w' => e = .returned (.bool true) ∧ Below w.heap.size w w' := by
  have h1 := fun (ty : TypeId) (w : World) => run_float_arith (P := Try.prog) w .add ty .f64 x y s ha
  have h2 := fun (ty : TypeId) (w : World) => run_float_arith (P := Try.prog) w .mul ty .f64 x y p hm
  clear ha hm
  go_enter Try.func5, Try.ntmps5
  go_wp2_with fail
  refine (AW.out _).mono ?_
  rintro e w1 ⟨rfl, b1⟩
  go_wp2_with fail
  refine (SU.out _).mono ?_
  rintro e w2 ⟨rfl, b2⟩
  have B2 : Hid (Below w.heap.size w w2) := (b1.out.alloc b1.out.size _).trans (b2.out.mono (by have := b1.out.size; simp; omega))
  clear b1 b2 AW SU
  go_wp2_with fail
  refine (new_go _).mono ?_
  rintro e w3 ⟨rfl, rfl⟩
  have hs2 := B2.out.size
  have I3 : Hid (IsAcc w2.heap.size S0 (w2.alloc (.cells (encA S0) 56))) := heap_alloc_new _ _
  have B3 : Hid (Below w.heap.size w (w2.alloc (.cells (encA S0) 56))) := B2.out.alloc hs2 _
  obtain ⟨g, hg⟩ : ∃ g, w2.heap.size = g := ⟨_, rfl⟩
  obtain ⟨w3, hw3⟩ : ∃ W, w2.alloc (.cells (encA S0) 56) = W := ⟨_, rfl⟩
  rw [hg] at hs2 I3 ⊢
  rw [hw3] at I3 B3 ⊢
  have HS := hid hs2
  clear hg hw3 B2 hs2
  go_wp2_with fail
  refine (PR.out g _ I3.out).mono ?_
  rintro e w4 ⟨rfl, I4, b4⟩
  have B4 : Hid (Below w.heap.size w w4) := B3.out.trans (b4.out.below HS.out B3.out.size)
  clear B3 b4 I3 PR
  go_wp2_with fail
  refine (VA.out g _ I4.out).mono ?_
  rintro e w5 ⟨rfl, b5⟩
  have B5 : Hid (Below w.heap.size w w5) := B4.out.trans (b5.mono B4.out.size)
  clear B4 b5 I4 VA HS
  go_wp2_with fail
  refine (RS.out _ _).mono ?_
  rintro e w7 ⟨rfl, rfl⟩
  go_wp2_with fail
  refine (RS.out _ _).mono ?_
  rintro e w8 ⟨rfl, rfl⟩
  go_wp2
  go_ret
  exact ⟨rfl, B5.out⟩

set_option maxHeartbeats 4000000 in
theorem go_some_some3 (x y s p : Nat) (w : World) (ha : Ieee.double.add x y = some s) (hs : feq s s = true) (hm : Ieee.double.mul x y = some p) (f1 : feq p 0 = true) (f2 : feq x 0 = false) (f3 : feq y 0 = true) (hpp : feq p p = true) 
    (AW : Hid (∀ w, Calls Try.prog 9 #[] w fun e w' => e = .returned (.bool true) ∧ Hid (Below w.heap.size w w')))
    (SU : Hid (∀ w : World, Calls Try.prog 23 #[.slice (some ⟨w.heap.size, 0, none⟩) 2 2] (w.alloc (.cells #[.float .f64 x, .float .f64 y] 30)) fun e w' => e = .returned (.tuple #[.float .f64 s, .int .i64 0]) ∧ Hid (Below (w.alloc (.cells #[.float .f64 x, .float .f64 y] 30)).heap.size (w.alloc (.cells #[.float .f64 x, .float .f64 y] 30)) w')))
    (PR : Hid (∀ (g : Nat) (w : World), IsAcc g S0 w → Calls Try.prog 14 #[.pointer (some ⟨g, 0, none⟩), .float .f64 x, .float .f64 y] w fun e w' => e = .returned (.int .i64 0) ∧ (Hid (IsAcc g (stepP S0 x y) w') ∧ Hid (But g w w'))))
    (VA : Hid (∀ (g : Nat) (w : World), IsAcc g (stepP S0 x y) w → Calls Try.prog 21 #[.pointer (some ⟨g, 0, none⟩)] w fun e w' => e = .returned (.float .f64 p) ∧ Below w.heap.size w w'))
    (_RB : Hid (∀ (a : Nat) (w : World), Calls Try.prog 25 #[.float .f64 a] w fun e w' => e = .returned (.int .u64 ((a : Nat) : Int)) ∧ w' = w))
    (_RF : Hid (∀ (a : Int) (w : World), Calls Try.prog 26 #[.int .u64 a] w fun e w' => e = .returned (.float .f64 a.toNat) ∧ w' = w))
    (RS : Hid (∀ (a : Nat) (w : World), Calls Try.prog 20 #[.float .f64 a, .float .f64 a] w fun e w' => e = .returned (.bool true) ∧ w' = w)) :
    Calls Try.prog 5 #[.float .f64 x, .float .f64 y] w fun e w' => e = .returned (.bool true) ∧ Below w.heap.size w w' := by
  have h1 := fun (ty : TypeId) (w : World) => run_float_arith (P := Try.prog) w .add ty .f64 x y s ha
  have h2 := fun (ty : TypeId) (w : World) => run_float_arith (P := Try.prog) w .mul ty .f64 x y p hm
  clear ha hm
  go_enter Try.func5, Try.ntmps5
  go_wp2_with fail
  refine (AW.out _).mono ?_
  rintro e w1 ⟨rfl, b1⟩
  go_wp2_with fail
  refine (SU.out _).mono ?_
  rintro e w2 ⟨rfl, b2⟩
  have B2 : Hid (Below w.heap.size w w2) := (b1.out.alloc b1.out.size _).trans (b2.out.mono (by have := b1.out.size; simp; omega))
  clear b1 b2 AW SU
  go_wp2_with fail
  refine (new_go _).mono ?_
  rintro e w3 ⟨rfl, rfl⟩
  have hs2 := B2.out.size
  have I3 : Hid (IsAcc w2.heap.size S0 (w2.alloc (.cells (encA S0) 56))) := heap_alloc_new _ _
  have B3 : Hid (Below w.heap.size w (w2.alloc (.cells (encA S0) 56))) := B2.out.alloc hs2 _
  obtain ⟨g, hg⟩ : ∃ g, w2.heap.size = g := ⟨_, rfl⟩
  obtain ⟨w3, hw3⟩ : ∃ W, w2.alloc (.cells (encA S0) 56) = W := ⟨_, rfl⟩
  rw [hg] at hs2 I3 ⊢
  rw [hw3] at I3 B3 ⊢
  have HS := hid hs2
  clear hg hw3 B2 hs2
  go_wp2_with fail
  refine (PR.out g _ I3.out).mono ?_
  rintro e w4 ⟨rfl, I4, b4⟩
  have B4 : Hid (Below w.heap.size w w4) := B3.out.trans (b4.out.below HS.out B3.out.size)
  clear B3 b4 I3 PR
  go_wp2_with fail
  refine (VA.out g _ I4.out).mono ?_
  rintro e w5 ⟨rfl, b5⟩
  have B5 : Hid (Below w.heap.size w w5) := B4.out.trans (b5.mono B4.out.size)
  clear B4 b5 I4 VA HS
  go_wp2_with fail
  refine (RS.out _ _).mono ?_
  rintro e w7 ⟨rfl, rfl⟩
  go_wp2_with fail
  refine (RS.out _ _).mono ?_
  rintro e w8 ⟨rfl, rfl⟩
  go_wp2
  go_ret
  exact ⟨rfl, B5.out⟩

set_option maxHeartbeats 4000000 in
theorem go_none_none (x y s p : Nat) (w : World) (ha : Ieee.double.add x y = none) (hs : s = 9221120237041090561) (hm : Ieee.double.mul x y = none) (hp : p = 9221120237041090561) 
    (AW : Hid (∀ w, Calls Try.prog 9 #[] w fun e w' => e = .returned (.bool true) ∧ Hid (Below w.heap.size w w')))
    (SU : Hid (∀ w : World, Calls Try.prog 23 #[.slice (some ⟨w.heap.size, 0, none⟩) 2 2] (w.alloc (.cells #[.float .f64 x, .float .f64 y] 30)) fun e w' => e = .returned (.tuple #[.float .f64 s, .int .i64 0]) ∧ Hid (Below (w.alloc (.cells #[.float .f64 x, .float .f64 y] 30)).heap.size (w.alloc (.cells #[.float .f64 x, .float .f64 y] 30)) w')))
    (PR : Hid (∀ (g : Nat) (w : World), IsAcc g S0 w → Calls Try.prog 14 #[.pointer (some ⟨g, 0, none⟩), .float .f64 x, .float .f64 y] w fun e w' => e = .returned (.int .i64 0) ∧ (Hid (IsAcc g (stepP S0 x y) w') ∧ Hid (But g w w'))))
    (VA : Hid (∀ (g : Nat) (w : World), IsAcc g (stepP S0 x y) w → Calls Try.prog 21 #[.pointer (some ⟨g, 0, none⟩)] w fun e w' => e = .returned (.float .f64 p) ∧ Below w.heap.size w w'))
    (_RB : Hid (∀ (a : Nat) (w : World), Calls Try.prog 25 #[.float .f64 a] w fun e w' => e = .returned (.int .u64 ((a : Nat) : Int)) ∧ w' = w))
    (RF : Hid (∀ (a : Int) (w : World), Calls Try.prog 26 #[.int .u64 a] w fun e w' => e = .returned (.float .f64 a.toNat) ∧ w' = w))
    (RS : Hid (∀ (a : Nat) (w : World), Calls Try.prog 20 #[.float .f64 a, .float .f64 a] w fun e w' => e = .returned (.bool true) ∧ w' = w)) :
    Calls Try.prog 5 #[.float .f64 x, .float .f64 y] w fun e w' => e = .returned (.bool true) ∧ Below w.heap.size w w' := by
  have h1 := fun (ty : TypeId) (w : World) => run_nan_add (P := Try.prog) w ty x y ha
  have n1 := fun (w : World) => feq_nan (nanOf w x y) (nanOf w x y) (.inl (isN_nanOf w x y))
  subst hs
  have h2 := fun (ty : TypeId) (w : World) => run_nan_mul (P := Try.prog) w ty x y hm
  have n2 := fun (w : World) => feq_nan (nanOf w x y) (nanOf w x y) (.inl (isN_nanOf w x y))
  have n3 := fun (w : World) => feq_nan (nanOf w x y) 0 (.inl (isN_nanOf w x y))
  subst hp
  clear ha hm
  go_enter Try.func5, Try.ntmps5
  go_wp2_with fail
  refine (AW.out _).mono ?_
  rintro e w1 ⟨rfl, b1⟩
  go_wp2_with fail
  refine (SU.out _).mono ?_
  rintro e w2 ⟨rfl, b2⟩
  have B2 : Hid (Below w.heap.size w w2) := (b1.out.alloc b1.out.size _).trans (b2.out.mono (by have := b1.out.size; simp; omega))
  clear b1 b2 AW SU
  go_wp2_with fail
  refine (new_go _).mono ?_
  rintro e w3 ⟨rfl, rfl⟩
  have hs2 := B2.out.size
  have I3 : Hid (IsAcc w2.heap.size S0 (w2.alloc (.cells (encA S0) 56))) := heap_alloc_new _ _
  have B3 : Hid (Below w.heap.size w (w2.alloc (.cells (encA S0) 56))) := B2.out.alloc hs2 _
  obtain ⟨g, hg⟩ : ∃ g, w2.heap.size = g := ⟨_, rfl⟩
  obtain ⟨w3, hw3⟩ : ∃ W, w2.alloc (.cells (encA S0) 56) = W := ⟨_, rfl⟩
  rw [hg] at hs2 I3 ⊢
  rw [hw3] at I3 B3 ⊢
  have HS := hid hs2
  clear hg hw3 B2 hs2
  go_wp2_with fail
  refine (PR.out g _ I3.out).mono ?_
  rintro e w4 ⟨rfl, I4, b4⟩
  have B4 : Hid (Below w.heap.size w w4) := B3.out.trans (b4.out.below HS.out B3.out.size)
  clear B3 b4 I3 PR
  go_wp2_with fail
  refine (VA.out g _ I4.out).mono ?_
  rintro e w5 ⟨rfl, b5⟩
  have B5 : Hid (Below w.heap.size w w5) := B4.out.trans (b5.mono B4.out.size)
  clear B4 b5 I4 VA HS
  go_wp2_with fail
  refine (RF.out _ _).mono ?_
  rintro e w6 ⟨rfl, rfl⟩
  go_wp2_with fail
  refine (RF.out _ _).mono ?_
  rintro e w6 ⟨rfl, rfl⟩
  go_wp2_with fail
  refine (RS.out _ _).mono ?_
  rintro e w7 ⟨rfl, rfl⟩
  go_wp2_with fail
  refine (RS.out _ _).mono ?_
  rintro e w8 ⟨rfl, rfl⟩
  go_wp2
  go_ret
  exact ⟨rfl, B5.out.drew.drew⟩

set_option maxHeartbeats 4000000 in
theorem go_none_tiny (x y s p t : Nat) (w : World) (ha : Ieee.double.add x y = none) (hs : s = 9221120237041090561) (hm : Ieee.double.mul x y = some t) (hp : p = 0) (ft : feq t 0 = true) (fx : feq x 0 = false) (fy : feq y 0 = false) 
    (AW : Hid (∀ w, Calls Try.prog 9 #[] w fun e w' => e = .returned (.bool true) ∧ Hid (Below w.heap.size w w')))
    (SU : Hid (∀ w : World, Calls Try.prog 23 #[.slice (some ⟨w.heap.size, 0, none⟩) 2 2] (w.alloc (.cells #[.float .f64 x, .float .f64 y] 30)) fun e w' => e = .returned (.tuple #[.float .f64 s, .int .i64 0]) ∧ Hid (Below (w.alloc (.cells #[.float .f64 x, .float .f64 y] 30)).heap.size (w.alloc (.cells #[.float .f64 x, .float .f64 y] 30)) w')))
    (PR : Hid (∀ (g : Nat) (w : World), IsAcc g S0 w → Calls Try.prog 14 #[.pointer (some ⟨g, 0, none⟩), .float .f64 x, .float .f64 y] w fun e w' => e = .returned (.int .i64 0) ∧ (Hid (IsAcc g (stepP S0 x y) w') ∧ Hid (But g w w'))))
    (VA : Hid (∀ (g : Nat) (w : World), IsAcc g (stepP S0 x y) w → Calls Try.prog 21 #[.pointer (some ⟨g, 0, none⟩)] w fun e w' => e = .returned (.float .f64 p) ∧ Below w.heap.size w w'))
    (RB : Hid (∀ (a : Nat) (w : World), Calls Try.prog 25 #[.float .f64 a] w fun e w' => e = .returned (.int .u64 ((a : Nat) : Int)) ∧ w' = w))
    (RF : Hid (∀ (a : Int) (w : World), Calls Try.prog 26 #[.int .u64 a] w fun e w' => e = .returned (.float .f64 a.toNat) ∧ w' = w))
    (RS : Hid (∀ (a : Nat) (w : World), Calls Try.prog 20 #[.float .f64 a, .float .f64 a] w fun e w' => e = .returned (.bool true) ∧ w' = w)) :
    Calls Try.prog 5 #[.float .f64 x, .float .f64 y] w fun e w' => e = .returned (.bool true) ∧ Below w.heap.size w w' := by
  have h1 := fun (ty : TypeId) (w : World) => run_nan_add (P := Try.prog) w ty x y ha
  have n1 := fun (w : World) => feq_nan (nanOf w x y) (nanOf w x y) (.inl (isN_nanOf w x y))
  subst hs
  have h2 := fun (ty : TypeId) (w : World) => run_float_arith (P := Try.prog) w .mul ty .f64 x y t hm
  subst hp
  have z0 : feq 0 0 = true := by decide +kernel
  clear ha hm
  go_enter Try.func5, Try.ntmps5
  go_wp2_with fail
  refine (AW.out _).mono ?_
  rintro e w1 ⟨rfl, b1⟩
  go_wp2_with fail
  refine (SU.out _).mono ?_
  rintro e w2 ⟨rfl, b2⟩
  have B2 : Hid (Below w.heap.size w w2) := (b1.out.alloc b1.out.size _).trans (b2.out.mono (by have := b1.out.size; simp; omega))
  clear b1 b2 AW SU
  go_wp2_with fail
  refine (new_go _).mono ?_
  rintro e w3 ⟨rfl, rfl⟩
  have hs2 := B2.out.size
  have I3 : Hid (IsAcc w2.heap.size S0 (w2.alloc (.cells (encA S0) 56))) := heap_alloc_new _ _
  have B3 : Hid (Below w.heap.size w (w2.alloc (.cells (encA S0) 56))) := B2.out.alloc hs2 _
  obtain ⟨g, hg⟩ : ∃ g, w2.heap.size = g := ⟨_, rfl⟩
  obtain ⟨w3, hw3⟩ : ∃ W, w2.alloc (.cells (encA S0) 56) = W := ⟨_, rfl⟩
  rw [hg] at hs2 I3 ⊢
  rw [hw3] at I3 B3 ⊢
  have HS := hid hs2
  clear hg hw3 B2 hs2
  go_wp2_with fail
  refine (PR.out g _ I3.out).mono ?_
  rintro e w4 ⟨rfl, I4, b4⟩
  have B4 : Hid (Below w.heap.size w w4) := B3.out.trans (b4.out.below HS.out B3.out.size)
  clear B3 b4 I3 PR
  go_wp2_with fail
  refine (VA.out g _ I4.out).mono ?_
  rintro e w5 ⟨rfl, b5⟩
  have B5 : Hid (Below w.heap.size w w5) := B4.out.trans (b5.mono B4.out.size)
  clear B4 b5 I4 VA HS
  go_wp2_with fail
  refine (RB.out _ _).mono ?_
  rintro e w6 ⟨rfl, rfl⟩
  go_wp2_with fail
  refine (RF.out _ _).mono ?_
  rintro e w6 ⟨rfl, rfl⟩
  go_wp2_with fail
  refine (RS.out _ _).mono ?_
  rintro e w7 ⟨rfl, rfl⟩
  go_wp2_with fail
  refine (RS.out _ _).mono ?_
  rintro e w8 ⟨rfl, rfl⟩
  go_wp2
  go_ret
  exact ⟨rfl, B5.out.drew⟩

set_option maxHeartbeats 4000000 in
theorem go_none_some1 (x y s p : Nat) (w : World) (ha : Ieee.double.add x y = none) (hs : s = 9221120237041090561) (hm : Ieee.double.mul x y = some p) (f1 : feq p 0 = false) (hpp : feq p p = true) 
    (AW : Hid (∀ w, Calls Try.prog 9 #[] w fun e w' => e = .returned (.bool true) ∧ Hid (Below w.heap.size w w')))
    (SU : Hid (∀ w : World, Calls Try.prog 23 #[.slice (some ⟨w.heap.size, 0, none⟩) 2 2] (w.alloc (.cells #[.float .f64 x, .float .f64 y] 30)) fun e w' => e = .returned (.tuple #[.float .f64 s, .int .i64 0]) ∧ Hid (Below (w.alloc (.cells #[.float .f64 x, .float .f64 y] 30)).heap.size (w.alloc (.cells #[.float .f64 x, .float .f64 y] 30)) w')))
    (PR : Hid (∀ (g : Nat) (w : World), IsAcc g S0 w → Calls Try.prog 14 #[.pointer (some ⟨g, 0, none⟩), .float .f64 x, .float .f64 y] w fun e w' => e = .returned (.int .i64 0) ∧ (Hid (IsAcc g (stepP S0 x y) w') ∧ Hid (But g w w'))))
    (VA : Hid (∀ (g : Nat) (w : World), IsAcc g (stepP S0 x y) w → Calls Try.prog 21 #[.pointer (some ⟨g, 0, none⟩)] w fun e w' => e = .returned (.float .f64 p) ∧ Below w.heap.size w w'))
    (_RB : Hid (∀ (a : Nat) (w : World), Calls Try.prog 25 #[.float .f64 a] w fun e w' => e = .returned (.int .u64 ((a : Nat) : Int)) ∧ w' = w))
    (RF : Hid (∀ (a : Int) (w : World), Calls Try.prog 26 #[.int .u64 a] w fun e w' => e = .returned (.float .f64 a.toNat) ∧ w' = w))
    (RS : Hid (∀ (a : Nat) (w : World), Calls Try.prog 20 #[.float .f64 a, .float .f64 a] w fun e w' => e = .returned (.bool true) ∧ w' = w)) :
    Calls Try.prog 5 #[.float .f64 x, .float .f64 y] w fun e w' => e = .returned (.bool true) ∧ Below w.heap.size w w' := by
  have h1 := fun (ty : TypeId) (w : World) => run_nan_add (P := Try.prog) w ty x y ha
  have n1 := fun (w : World) => feq_nan (nanOf w x y) (nanOf w x y) (.inl (isN_nanOf w x y))
  subst hs
  have h2 := fun (ty : TypeId) (w : World) => run_float_arith (P := Try.prog) w .mul ty .f64 x y p hm
  clear ha hm
  go_enter Try.func5, Try.ntmps5
  go_wp2_with fail
  refine (AW.out _).mono ?_
  rintro e w1 ⟨rfl, b1⟩
  go_wp2_with fail
  refine (SU.out _).mono ?_
  rintro e w2 ⟨rfl, b2⟩
  have B2 : Hid (Below w.heap.size w w2) := (b1.out.alloc b1.out.size _).trans (b2.out.mono (by have := b1.out.size; simp; omega))
  clear b1 b2 AW SU
  go_wp2_with fail
  refine (new_go _).mono ?_
  rintro e w3 ⟨rfl, rfl⟩
  have hs2 := B2.out.size
  have I3 : Hid (IsAcc w2.heap.size S0 (w2.alloc (.cells (encA S0) 56))) := heap_alloc_new _ _
  have B3 : Hid (Below w.heap.size w (w2.alloc (.cells (encA S0) 56))) := B2.out.alloc hs2 _
  obtain ⟨g, hg⟩ : ∃ g, w2.heap.size = g := ⟨_, rfl⟩
  obtain ⟨w3, hw3⟩ : ∃ W, w2.alloc (.cells (encA S0) 56) = W := ⟨_, rfl⟩
  rw [hg] at hs2 I3 ⊢
  rw [hw3] at I3 B3 ⊢
  have HS := hid hs2
  clear hg hw3 B2 hs2
  go_wp2_with fail
  refine (PR.out g _ I3.out).mono ?_
  rintro e w4 ⟨rfl, I4, b4⟩
  have B4 : Hid (Below w.heap.size w w4) := B3.out.trans (b4.out.below HS.out B3.out.size)
  clear B3 b4 I3 PR
  go_wp2_with fail
  refine (VA.out g _ I4.out).mono ?_
  rintro e w5 ⟨rfl, b5⟩
  have B5 : Hid (Below w.heap.size w w5) := B4.out.trans (b5.mono B4.out.size)
  clear B4 b5 I4 VA HS
  go_wp2_with fail
  refine (RF.out _ _).mono ?_
  rintro e w6 ⟨rfl, rfl⟩
  go_wp2_with fail
  refine (RS.out _ _).mono ?_
  rintro e w7 ⟨rfl, rfl⟩
  go_wp2_with fail
  refine (RS.out _ _).mono ?_
  rintro e w8 ⟨rfl, rfl⟩
  go_wp2
  go_ret
  exact ⟨rfl, B5.out.drew⟩

set_option maxHeartbeats 4000000 in
theorem go_none_some2 (x y s p : Nat) (w : World) (ha : Ieee.double.add x y = none) (hs : s = 9221120237041090561) (hm : Ieee.double.mul x y = some p) (f1 : feq p 0 = true) (f2 : feq x 0 = true) (hpp : feq p p = true) 
    (AW : Hid (∀ w, Calls Try.prog 9 #[] w fun e w' => e = .returned (.bool true) ∧ Hid (Below w.heap.size w w')))
    (SU : Hid (∀ w : World, Calls Try.prog 23 #[.slice (some ⟨w.heap.size, 0, none⟩) 2 2] (w.alloc (.cells #[.float .f64 x, .float .f64 y] 30)) fun e w' => e = .returned (.tuple #[.float .f64 s, .int .i64 0]) ∧ Hid (Below (w.alloc (.cells #[.float .f64 x, .float .f64 y] 30)).heap.size (w.alloc (.cells #[.float .f64 x, .float .f64 y] 30)) w')))
    (PR : Hid (∀ (g : Nat) (w : World), IsAcc g S0 w → Calls Try.prog 14 #[.pointer (some ⟨g, 0, none⟩), .float .f64 x, .float .f64 y] w fun e w' => e = .returned (.int .i64 0) ∧ (Hid (IsAcc g (stepP S0 x y) w') ∧ Hid (But g w w'))))
    (VA : Hid (∀ (g : Nat) (w : World), IsAcc g (stepP S0 x y) w → Calls Try.prog 21 #[.pointer (some ⟨g, 0, none⟩)] w fun e w' => e = .returned (.float .f64 p) ∧ Below w.heap.size w w'))
    (_RB : Hid (∀ (a : Nat) (w : World), Calls Try.prog 25 #[.float .f64 a] w fun e w' => e = .returned (.int .u64 ((a : Nat) : Int)) ∧ w' = w))
    (RF : Hid (∀ (a : Int) (w : World), Calls Try.prog 26 #[.int .u64 a] w fun e w' => e = .returned (.float .f64 a.toNat) ∧ w' = w))
    (RS : Hid (∀ (a : Nat) (w : World), Calls Try.prog 20 #[.float .f64 a, .float .f64 a] w fun e w' => e = .returned (.bool true) ∧ w' = w)) :
    Calls Try.prog 5 #[.float .f64 x, .float .f64 y] w fun e w' => e = .returned (.bool true) ∧ Below w.heap.size w w' := by
  have h1 := fun (ty : TypeId) (w : World) => run_nan_add (P := Try.prog) w ty x y ha
  have n1 := fun (w : World) => feq_nan (nanOf w x y) (nanOf w x y) (.inl (isN_nanOf w x y))
  subst hs
  have h2 := fun (ty : TypeId) (w : World) => run_float_arith (P := Try.prog) w .mul ty .f64 x y p hm
  clear ha hm
  go_enter Try.func5, Try.ntmps5
  go_wp2_with fail
  refine (AW.out _).mono ?_
  rintro e w1 ⟨rfl, b1⟩
  go_wp2_with fail
  refine (SU.out _).mono ?_
  rintro e w2 ⟨rfl, b2⟩
  have B2 : Hid (Below w.heap.size w w2) := (b1.out.alloc b1.out.size _).trans (b2.out.mono (by have := b1.out.size; simp; omega))
  clear b1 b2 AW SU
  go_wp2_with fail
  refine (new_go _).mono ?_
  rintro e w3 ⟨rfl, rfl⟩
  have hs2 := B2.out.size
  have I3 : Hid (IsAcc w2.heap.size S0 (w2.alloc (.cells (encA S0) 56))) := heap_alloc_new _ _
  have B3 : Hid (Below w.heap.size w (w2.alloc (.cells (encA S0) 56))) := B2.out.alloc hs2 _
  obtain ⟨g, hg⟩ : ∃ g, w2.heap.size = g := ⟨_, rfl⟩
  obtain ⟨w3, hw3⟩ : ∃ W, w2.alloc (.cells (encA S0) 56) = W := ⟨_, rfl⟩
  rw [hg] at hs2 I3 ⊢
  rw [hw3] at I3 B3 ⊢
  have HS := hid hs2
  clear hg hw3 B2 hs2
  go_wp2_with fail
  refine (PR.out g _ I3.out).mono ?_
  rintro e w4 ⟨rfl, I4, b4⟩
  have B4 : Hid (Below w.heap.size w w4) := B3.out.trans (b4.out.below HS.out B3.out.size)
  clear B3 b4 I3 PR
  go_wp2_with fail
  refine (VA.out g _ I4.out).mono ?_
  rintro e w5 ⟨rfl, b5⟩
  have B5 : Hid (Below w.heap.size w w5) := B4.out.trans (b5.mono B4.out.size)
  clear B4 b5 I4 VA HS
  go_wp2_with fail
  refine (RF.out _ _).mono ?_
  rintro e w6 ⟨rfl, rfl⟩
  go_wp2_with fail
  refine (RS.out _ _).mono ?_
  rintro e w7 ⟨rfl, rfl⟩
  go_wp2_with fail
  refine (RS.out _ _).mono ?_
  rintro e w8 ⟨rfl, rfl⟩
  go_wp2
  go_ret
  exact ⟨rfl, B5.out.drew⟩

set_option maxHeartbeats 4000000 in
theorem go_none_some3 (x y s p : Nat) (w : World) (ha : Ieee.double.add x y = none) (hs : s = 9221120237041090561) (hm : Ieee.double.mul x y = some p) (f1 : feq p 0 = true) (f2 : feq x 0 = false) (f3 : feq y 0 = true) (hpp : feq p p = true) 
    (AW : Hid (∀ w, Calls Try.prog 9 #[] w fun e w' => e = .returned (.bool true) ∧ Hid (Below w.heap.size w w')))
    (SU : Hid (∀ w : World, Calls Try.prog 23 #[.slice (some ⟨w.heap.size, 0, none⟩) 2 2] (w.alloc (.cells #[.float .f64 x, .float .f64 y] 30)) fun e w' => e = .returned (.tuple #[.float .f64 s, .int .i64 0]) ∧ Hid (Below (w.alloc (.cells #[.float .f64 x, .float .f64 y] 30)).heap.size (w.alloc (.cells #[.float .f64 x, .float .f64 y] 30)) w')))
    (PR : Hid (∀ (g : Nat) (w : World), IsAcc g S0 w → Calls Try.prog 14 #[.pointer (some ⟨g, 0, none⟩), .float .f64 x, .float .f64 y] w fun e w' => e = .returned (.int .i64 0) ∧ (Hid (IsAcc g (stepP S0 x y) w') ∧ Hid (But g w w'))))
    (VA : Hid (∀ (g : Nat) (w : World), IsAcc g (stepP S0 x y) w → Calls Try.prog 21 #[.pointer (some ⟨g, 0, none⟩)] w fun e w' => e = .returned (.float .f64 p) ∧ Below w.heap.size w w'))
    (_RB : Hid (∀ (a : Nat) (w : World), Calls Try.prog 25 #[.float .f64 a] w fun e w' => e = .returned (.int .u64 ((a : Nat) : Int)) ∧ w' = w))
    (RF : Hid (∀ (a : Int) (w : World), Calls Try.prog 26 #[.int .u64 a] w fun e w' => e = .returned (.float .f64 a.toNat) ∧ w' = w))
    (RS : Hid (∀ (a : Nat) (w : World), Calls Try.prog 20 #[.float .f64 a, .float .f64 a] w fun e w' => e = .returned (.bool true) ∧ w' = w)) :
    Calls Try.prog 5 #[.float .f64 x, .float .f64 y] w fun e w' => e = .returned (.bool true) ∧ Below w.heap.size w w' := by
  have h1 := fun (ty : TypeId) (w : World) => run_nan_add (P := Try.prog) w ty x y ha
  have n1 := fun (w : World) => feq_nan (nanOf w x y) (nanOf w x y) (.inl (isN_nanOf w x y))
  subst hs
  have h2 := fun (ty : TypeId) (w : World) => run_float_arith (P := Try.prog) w .mul ty .f64 x y p hm
  clear ha hm
  go_enter Try.func5, Try.ntmps5
  go_wp2_with fail
  refine (AW.out _).mono ?_
  rintro e w1 ⟨rfl, b1⟩
  go_wp2_with fail
  refine (SU.out _).mono ?_
  rintro e w2 ⟨rfl, b2⟩
  have B2 : Hid (Below w.heap.size w w2) := (b1.out.alloc b1.out.size _).trans (b2.out.mono (by have := b1.out.size; simp; omega))
  clear b1 b2 AW SU
  go_wp2_with fail
  refine (new_go _).mono ?_
  rintro e w3 ⟨rfl, rfl⟩
  have hs2 := B2.out.size
  have I3 : Hid (IsAcc w2.heap.size S0 (w2.alloc (.cells (encA S0) 56))) := heap_alloc_new _ _
  have B3 : Hid (Below w.heap.size w (w2.alloc (.cells (encA S0) 56))) := B2.out.alloc hs2 _
  obtain ⟨g, hg⟩ : ∃ g, w2.heap.size = g := ⟨_, rfl⟩
  obtain ⟨w3, hw3⟩ : ∃ W, w2.alloc (.cells (encA S0) 56) = W := ⟨_, rfl⟩
  rw [hg] at hs2 I3 ⊢
  rw [hw3] at I3 B3 ⊢
  have HS := hid hs2
  clear hg hw3 B2 hs2
  go_wp2_with fail
  refine (PR.out g _ I3.out).mono ?_
  rintro e w4 ⟨rfl, I4, b4⟩
  have B4 : Hid (Below w.heap.size w w4) := B3.out.trans (b4.out.below HS.out B3.out.size)
  clear B3 b4 I3 PR
  go_wp2_with fail
  refine (VA.out g _ I4.out).mono ?_
  rintro e w5 ⟨rfl, b5⟩
  have B5 : Hid (Below w.heap.size w w5) := B4.out.trans (b5.mono B4.out.size)
  clear B4 b5 I4 VA HS
  go_wp2_with fail
  refine (RF.out _ _).mono ?_
  rintro e w6 ⟨rfl, rfl⟩
  go_wp2_with fail
  refine (RS.out _ _).mono ?_
  rintro e w7 ⟨rfl, rfl⟩
  go_wp2_with fail
  refine (RS.out _ _).mono ?_
  rintro e w8 ⟨rfl, rfl⟩
  go_wp2
  go_ret
  exact ⟨rfl, B5.out.drew⟩

theorem walk (a0 a1 : Nat) (w0 : (Lit.float .f64 a0).wf = true) (w1 : (Lit.float .f64 a1).wf = true) (w : World) :
    Calls Try.prog 5 #[.float .f64 a0, .float .f64 a1] w fun e w' => e = .returned (.bool true) ∧ Below w.heap.size w w' := by
  have hx := lit_lt w0
  have hy := lit_lt w1
  have AW := hid awake_any
  have RB := hid rawBits_any
  have RF := hid rawFrom_any
  have RS := hid same_self
  have SU := hid (fun (w : World) => sum_at (some ⟨w.heap.size, 0, none⟩) 2 2 (twoX a0 a1) (w.alloc (.cells #[.float .f64 a0, .float .f64 a1] 30)) (by decide) (two_list a0 a1 w _ hx hy))
  rw [sum_two] at SU
  have g0 := good0
  have g1 := stepP_good g0 a0 a1 (by decide)
  have PR := hid (fun (g : Nat) (w : World) (h : IsAcc g S0 w) => addp_at g a0 a1 S0 w hx hy h g0.c0 (by decide) g0.n0 g0.n1)
  have VA := hid (fun (g : Nat) (w : World) (h : IsAcc g (stepP S0 a0 a1) w) => value_at g _ w h g1.c0 g1.h0 g1.h1)
  rcases val_two a0 a1 hx hy with ⟨ha, hv⟩ | ⟨t, ha, hv, ht, ht2⟩
  · rcases val_prod a0 a1 hx hy with ⟨hm, hp⟩ | ⟨t2, hm, n2, l2, ⟨z1, z2, z3, hp⟩ | ⟨z, hp⟩⟩
    · exact go_none_none a0 a1 _ _ w ha hv hm hp AW SU PR VA RB RF RS
    · exact go_none_tiny a0 a1 _ _ t2 w ha hv hm hp (by rw [feq_zero t2 l2, z1]; rfl) (by rw [feq_zero a0 hx]; exact decide_eq_false z2) (by rw [feq_zero a1 hy]; exact decide_eq_false z3) AW SU PR VA RB RF RS
    · rw [hp] at VA
      by_cases c1 : mg t2 = 0
      · by_cases c2 : mg a0 = 0
        · exact go_none_some2 a0 a1 _ _ w ha hv hm (by rw [feq_zero t2 l2]; exact decide_eq_true c1) (by rw [feq_zero a0 hx]; exact decide_eq_true c2) (feq_own _ n2 l2) AW SU PR VA RB RF RS
        · have c3 : mg a1 = 0 := by
            by_cases c3 : mg a1 = 0
            · exact c3
            · exact absurd ⟨c1, c2, c3⟩ z
          exact go_none_some3 a0 a1 _ _ w ha hv hm (by rw [feq_zero t2 l2]; exact decide_eq_true c1) (by rw [feq_zero a0 hx]; exact decide_eq_false c2) (by rw [feq_zero a1 hy]; exact decide_eq_true c3) (feq_own _ n2 l2) AW SU PR VA RB RF RS
      · exact go_none_some1 a0 a1 _ _ w ha hv hm (by rw [feq_zero t2 l2]; exact decide_eq_false c1) (feq_own _ n2 l2) AW SU PR VA RB RF RS
  · rw [hv] at SU
    rcases val_prod a0 a1 hx hy with ⟨hm, hp⟩ | ⟨t2, hm, n2, l2, ⟨z1, z2, z3, hp⟩ | ⟨z, hp⟩⟩
    · exact go_some_none a0 a1 _ _ w ha (feq_own _ ht ht2) hm hp AW SU PR VA RB RF RS
    · exact go_some_tiny a0 a1 _ _ t2 w ha (feq_own _ ht ht2) hm hp (by rw [feq_zero t2 l2, z1]; rfl) (by rw [feq_zero a0 hx]; exact decide_eq_false z2) (by rw [feq_zero a1 hy]; exact decide_eq_false z3) AW SU PR VA RB RF RS
    · rw [hp] at VA
      by_cases c1 : mg t2 = 0
      · by_cases c2 : mg a0 = 0
        · exact go_some_some2 a0 a1 _ _ w ha (feq_own _ ht ht2) hm (by rw [feq_zero t2 l2]; exact decide_eq_true c1) (by rw [feq_zero a0 hx]; exact decide_eq_true c2) (feq_own _ n2 l2) AW SU PR VA RB RF RS
        · have c3 : mg a1 = 0 := by
            by_cases c3 : mg a1 = 0
            · exact c3
            · exact absurd ⟨c1, c2, c3⟩ z
          exact go_some_some3 a0 a1 _ _ w ha (feq_own _ ht ht2) hm (by rw [feq_zero t2 l2]; exact decide_eq_true c1) (by rw [feq_zero a0 hx]; exact decide_eq_false c2) (by rw [feq_zero a1 hy]; exact decide_eq_true c3) (feq_own _ n2 l2) AW SU PR VA RB RF RS
      · exact go_some_some1 a0 a1 _ _ w ha (feq_own _ ht ht2) hm (by rw [feq_zero t2 l2]; exact decide_eq_false c1) (feq_own _ n2 l2) AW SU PR VA RB RF RS

set_option maxRecDepth 100000 in
theorem lifted (os : Os) (started : os.Started) (H : Type) (enc : TypeId × Value → H) :
    ReturnsInHanded {} Try.checked os 5 .any (Rows.accTwoSpec.pre6 enc Try.prog Try.f5 Rows.accTwoRow.domain false) (Rows.accTwoSpec.post enc Try.prog Try.f5 false true false false) := by
  refine returnsInHanded_of_change (C := Try.checked) own started (by kernel_rfl) Try.func5
    (ChangeSpec.witness6 (enc := enc) (C := Try.checked) false ⟨#[], #[.float .f64 0, .float .f64 0], []⟩ 8 (by kernel_rfl) (by kernel_rfl) (by kernel_rfl) (by kernel_rfl)) ?_
  intro W base args ds gs before hval0 hW hcnd _
  have hval : ∀ (j : Nat) t v, Try.f5.params[j]? = some t → args[j]? = some v → Value.okWide Try.prog W .any base t v := hval0
  have hW' := hW
  obtain ⟨p, q, hA0, hV, rfl, hfz, hnd⟩ := hW
  have hA : DataW.TrodAll enc Try.prog W 0 (fun _ => true) true Try.f5.params.toList args.toList ds p := hA0
  rw [Try.params5] at hA hval
  obtain ⟨v0, vs0, d0, ds0, p0, q0, hargs, rfl, rfl, h0, r0⟩ := trodAll_cons hA
  obtain ⟨v1, vs1, d1, ds1, p1, q1, rfl, rfl, rfl, h1, r1⟩ := trodAll_cons r0
  obtain ⟨rfl, rfl, rfl⟩ := trodAll_nil r1
  obtain rfl : args = #[v0, v1] := by cases args; simp_all
  obtain ⟨rfl, rfl⟩ := trodVars_none hV
  obtain ⟨a0, rfl, rfl, rfl, w0⟩ := open_float Try.underlying30 (hval 0 30 v0 rfl rfl) h0
  obtain ⟨a1, rfl, rfl, rfl, w1⟩ := open_float Try.underlying30 (hval 1 30 v1 rfl rfl) h1
  clear hA0 hval0
  refine (walk a0 a1 w0 w1 W).mono fun e W' ⟨he, hg⟩ => ?_
  subst he
  exact ⟨_, rfl, _, _, _, [], _, [], hW', trodAll_mk1 (shut_bool Try.underlying4 _), (trodAll_cons_mk (shut_float Try.underlying30 w0) (trodAll_cons_mk (shut_float Try.underlying30 w1) trodAll_mk0)), rfl, hg.frame _, fun h => by cases h⟩

theorem over : Rows.accTwoRow.holds Try.pinned (OpenSpec.ofChange Rows.accTwoSpec) :=
  OpenClaim.holds_of_wide 5 Try.f5 rfl rfl rfl rfl rfl rfl rfl ⟨rfl, rfl, rfl, rfl, rfl⟩ rfl rfl rfl rfl rfl (by kernel_rfl) Try.func5 (by kernel_rfl)
    (of_decide_eq_true (by kernel_rfl)) (by unfold Func.isWrapper; first | (rw [if_pos (by decide +kernel)]; kernel_rfl) | (rw [if_neg (by decide +kernel)]; exact ⟨rfl, rfl⟩))
    (fun os started H enc _ => lifted os started H enc)

end Go.Proofs.Ytpnijbdoceladaa.accTwoDone
namespace Go.Proofs.Ytpnijbdoceladaa
theorem accTwo_holds : Rows.AccTwoSaid := accTwoDone.over
#print axioms accTwo_holds
end Go.Proofs.Ytpnijbdoceladaa
