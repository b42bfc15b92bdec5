/-
  A product, one number more: walks over the program, case by case.
-/
import Derived.Test.YtgbnabpbheebjaaGf
namespace Go.Proofs.Ytgbnabpbheebjaa
open Go.RowKit Tf
attribute [local go_sem] run_bits run_from raw_feq raw_fne raw_flt raw_fgt run_neg
set_option maxHeartbeats 2000000 in
theorem pm3 (g x y : Nat) (c : Int) (z1 z2 : Bool) (w : World) (Q : World → Prop)
    (h0 : w.cell? ⟨g, 0, none⟩ = some (.int .i64 c)) (f0 : w.frozen? ⟨g, 0, none⟩ = false) (hc0 : 0 ≤ c) (hc1 : c < 1048576) (u : Bool) (hk : w.cell? ⟨g, 69, none⟩ = some (.bool u)) (fk : w.frozen? ⟨g, 69, none⟩ = false) (hz : (!(z1 == z2)) = true)
    (C1 : Hid (∀ w, Calls Try.prog 30 #[.float .f64 x] w fun r w' => r = .returned (.int .i64 3) ∧ w' = w))
    (C2 : Hid (∀ w, Calls Try.prog 30 #[.float .f64 y] w fun r w' => r = .returned (.int .i64 3) ∧ w' = w))
    (S1 : Hid (∀ w, Calls Try.prog 31 #[.float .f64 x] w fun r w' => r = .returned (.bool z1) ∧ w' = w))
    (S2 : Hid (∀ w, Calls Try.prog 31 #[.float .f64 y] w fun r w' => r = .returned (.bool z2) ∧ w' = w))
    (F : Hid (Q ((w.setCell ⟨g, 0, none⟩ (.int .i64 (c + 1))).setCell ⟨g, 69, none⟩ (.bool true)))) :
    Calls Try.prog 14 #[.pointer (some ⟨g, 0, none⟩), .float .f64 x, .float .f64 y] w fun e w' => e = .returned (.int .i64 0) ∧ Q w' := by
  go_enter Try.func14, Try.ntmps14
  go_wp2_with fail
  refine (C1.out _).mono ?_
  rintro e w' ⟨rfl, rfl⟩
  go_wp2_with fail
  refine (C2.out _).mono ?_
  rintro e w' ⟨rfl, rfl⟩
  go_wp2_with fail
  refine (S1.out _).mono ?_
  rintro e w' ⟨rfl, rfl⟩
  go_wp2_with fail
  refine (S2.out _).mono ?_
  rintro e w' ⟨rfl, rfl⟩
  go_wp2
  go_ret
  exact ⟨rfl, F.out⟩

set_option maxHeartbeats 2000000 in
theorem pp1 (g x y : Nat) (c a : Int) (z1 z2 : Bool) (w : World) (Q : World → Prop)
    (h0 : w.cell? ⟨g, 0, none⟩ = some (.int .i64 c)) (f0 : w.frozen? ⟨g, 0, none⟩ = false) (hc0 : 0 ≤ c) (hc1 : c < 1048576) (u : Bool) (hk : w.cell? ⟨g, 68, none⟩ = some (.bool u)) (fk : w.frozen? ⟨g, 68, none⟩ = false) (ha0 : 0 < a) (ha : a < 3) (hz : (!(z1 == z2)) = false)
    (C1 : Hid (∀ w, Calls Try.prog 30 #[.float .f64 x] w fun r w' => r = .returned (.int .i64 a) ∧ w' = w))
    (C2 : Hid (∀ w, Calls Try.prog 30 #[.float .f64 y] w fun r w' => r = .returned (.int .i64 3) ∧ w' = w))
    (S1 : Hid (∀ w, Calls Try.prog 31 #[.float .f64 x] w fun r w' => r = .returned (.bool z1) ∧ w' = w))
    (S2 : Hid (∀ w, Calls Try.prog 31 #[.float .f64 y] w fun r w' => r = .returned (.bool z2) ∧ w' = w))
    (F : Hid (Q ((w.setCell ⟨g, 0, none⟩ (.int .i64 (c + 1))).setCell ⟨g, 68, none⟩ (.bool true)))) :
    Calls Try.prog 14 #[.pointer (some ⟨g, 0, none⟩), .float .f64 x, .float .f64 y] w fun e w' => e = .returned (.int .i64 0) ∧ Q w' := by
  go_enter Try.func14, Try.ntmps14
  go_wp2_with fail
  refine (C1.out _).mono ?_
  rintro e w' ⟨rfl, rfl⟩
  go_wp2_with fail
  refine (C2.out _).mono ?_
  rintro e w' ⟨rfl, rfl⟩
  go_wp2_with fail
  refine (S1.out _).mono ?_
  rintro e w' ⟨rfl, rfl⟩
  go_wp2_with fail
  refine (S2.out _).mono ?_
  rintro e w' ⟨rfl, rfl⟩
  go_wp2
  go_ret
  exact ⟨rfl, F.out⟩

set_option maxHeartbeats 2000000 in
theorem pp2 (g x y : Nat) (c b : Int) (z1 z2 : Bool) (w : World) (Q : World → Prop)
    (h0 : w.cell? ⟨g, 0, none⟩ = some (.int .i64 c)) (f0 : w.frozen? ⟨g, 0, none⟩ = false) (hc0 : 0 ≤ c) (hc1 : c < 1048576) (u : Bool) (hk : w.cell? ⟨g, 68, none⟩ = some (.bool u)) (fk : w.frozen? ⟨g, 68, none⟩ = false) (hb0 : 0 < b) (hb : b < 3) (hz : (!(z1 == z2)) = false)
    (C1 : Hid (∀ w, Calls Try.prog 30 #[.float .f64 x] w fun r w' => r = .returned (.int .i64 3) ∧ w' = w))
    (C2 : Hid (∀ w, Calls Try.prog 30 #[.float .f64 y] w fun r w' => r = .returned (.int .i64 b) ∧ w' = w))
    (S1 : Hid (∀ w, Calls Try.prog 31 #[.float .f64 x] w fun r w' => r = .returned (.bool z1) ∧ w' = w))
    (S2 : Hid (∀ w, Calls Try.prog 31 #[.float .f64 y] w fun r w' => r = .returned (.bool z2) ∧ w' = w))
    (F : Hid (Q ((w.setCell ⟨g, 0, none⟩ (.int .i64 (c + 1))).setCell ⟨g, 68, none⟩ (.bool true)))) :
    Calls Try.prog 14 #[.pointer (some ⟨g, 0, none⟩), .float .f64 x, .float .f64 y] w fun e w' => e = .returned (.int .i64 0) ∧ Q w' := by
  go_enter Try.func14, Try.ntmps14
  go_wp2_with fail
  refine (C1.out _).mono ?_
  rintro e w' ⟨rfl, rfl⟩
  go_wp2_with fail
  refine (C2.out _).mono ?_
  rintro e w' ⟨rfl, rfl⟩
  go_wp2_with fail
  refine (S1.out _).mono ?_
  rintro e w' ⟨rfl, rfl⟩
  go_wp2_with fail
  refine (S2.out _).mono ?_
  rintro e w' ⟨rfl, rfl⟩
  go_wp2
  go_ret
  exact ⟨rfl, F.out⟩

set_option maxHeartbeats 2000000 in
theorem pp3 (g x y : Nat) (c : Int) (z1 z2 : Bool) (w : World) (Q : World → Prop)
    (h0 : w.cell? ⟨g, 0, none⟩ = some (.int .i64 c)) (f0 : w.frozen? ⟨g, 0, none⟩ = false) (hc0 : 0 ≤ c) (hc1 : c < 1048576) (u : Bool) (hk : w.cell? ⟨g, 68, none⟩ = some (.bool u)) (fk : w.frozen? ⟨g, 68, none⟩ = false) (hz : (!(z1 == z2)) = false)
    (C1 : Hid (∀ w, Calls Try.prog 30 #[.float .f64 x] w fun r w' => r = .returned (.int .i64 3) ∧ w' = w))
    (C2 : Hid (∀ w, Calls Try.prog 30 #[.float .f64 y] w fun r w' => r = .returned (.int .i64 3) ∧ w' = w))
    (S1 : Hid (∀ w, Calls Try.prog 31 #[.float .f64 x] w fun r w' => r = .returned (.bool z1) ∧ w' = w))
    (S2 : Hid (∀ w, Calls Try.prog 31 #[.float .f64 y] w fun r w' => r = .returned (.bool z2) ∧ w' = w))
    (F : Hid (Q ((w.setCell ⟨g, 0, none⟩ (.int .i64 (c + 1))).setCell ⟨g, 68, none⟩ (.bool true)))) :
    Calls Try.prog 14 #[.pointer (some ⟨g, 0, none⟩), .float .f64 x, .float .f64 y] w fun e w' => e = .returned (.int .i64 0) ∧ Q w' := by
  go_enter Try.func14, Try.ntmps14
  go_wp2_with fail
  refine (C1.out _).mono ?_
  rintro e w' ⟨rfl, rfl⟩
  go_wp2_with fail
  refine (C2.out _).mono ?_
  rintro e w' ⟨rfl, rfl⟩
  go_wp2_with fail
  refine (S1.out _).mono ?_
  rintro e w' ⟨rfl, rfl⟩
  go_wp2_with fail
  refine (S2.out _).mono ?_
  rintro e w' ⟨rfl, rfl⟩
  go_wp2
  go_ret
  exact ⟨rfl, F.out⟩

set_option maxHeartbeats 2000000 in
theorem zm1 (g x y : Nat) (c n a : Int) (z1 z2 : Bool) (w : World) (Q : World → Prop)
    (h0 : w.cell? ⟨g, 0, none⟩ = some (.int .i64 c)) (f0 : w.frozen? ⟨g, 0, none⟩ = false) (hc0 : 0 ≤ c) (hc1 : c < 1048576) (hk : w.cell? ⟨g, 1, none⟩ = some (.int .i64 n)) (fk : w.frozen? ⟨g, 1, none⟩ = false) (hn0 : 0 ≤ n) (hn1 : n < 1048576) (ha0 : 0 < a) (ha : a < 3) (hz : (!(z1 == z2)) = true)
    (C1 : Hid (∀ w, Calls Try.prog 30 #[.float .f64 x] w fun r w' => r = .returned (.int .i64 a) ∧ w' = w))
    (C2 : Hid (∀ w, Calls Try.prog 30 #[.float .f64 y] w fun r w' => r = .returned (.int .i64 0) ∧ w' = w))
    (S1 : Hid (∀ w, Calls Try.prog 31 #[.float .f64 x] w fun r w' => r = .returned (.bool z1) ∧ w' = w))
    (S2 : Hid (∀ w, Calls Try.prog 31 #[.float .f64 y] w fun r w' => r = .returned (.bool z2) ∧ w' = w))
    (F : Hid (Q ((w.setCell ⟨g, 0, none⟩ (.int .i64 (c + 1))).setCell ⟨g, 1, none⟩ (.int .i64 (n + 1))))) :
    Calls Try.prog 14 #[.pointer (some ⟨g, 0, none⟩), .float .f64 x, .float .f64 y] w fun e w' => e = .returned (.int .i64 0) ∧ Q w' := by
  go_enter Try.func14, Try.ntmps14
  go_wp2_with fail
  refine (C1.out _).mono ?_
  rintro e w' ⟨rfl, rfl⟩
  go_wp2_with fail
  refine (C2.out _).mono ?_
  rintro e w' ⟨rfl, rfl⟩
  go_wp2_with fail
  refine (S1.out _).mono ?_
  rintro e w' ⟨rfl, rfl⟩
  go_wp2_with fail
  refine (S2.out _).mono ?_
  rintro e w' ⟨rfl, rfl⟩
  go_wp2
  go_ret
  exact ⟨rfl, F.out⟩

set_option maxHeartbeats 2000000 in
theorem zm2 (g x y : Nat) (c n b : Int) (z1 z2 : Bool) (w : World) (Q : World → Prop)
    (h0 : w.cell? ⟨g, 0, none⟩ = some (.int .i64 c)) (f0 : w.frozen? ⟨g, 0, none⟩ = false) (hc0 : 0 ≤ c) (hc1 : c < 1048576) (hk : w.cell? ⟨g, 1, none⟩ = some (.int .i64 n)) (fk : w.frozen? ⟨g, 1, none⟩ = false) (hn0 : 0 ≤ n) (hn1 : n < 1048576) (hb0 : 0 < b) (hb : b < 3) (hz : (!(z1 == z2)) = true)
    (C1 : Hid (∀ w, Calls Try.prog 30 #[.float .f64 x] w fun r w' => r = .returned (.int .i64 0) ∧ w' = w))
    (C2 : Hid (∀ w, Calls Try.prog 30 #[.float .f64 y] w fun r w' => r = .returned (.int .i64 b) ∧ w' = w))
    (S1 : Hid (∀ w, Calls Try.prog 31 #[.float .f64 x] w fun r w' => r = .returned (.bool z1) ∧ w' = w))
    (S2 : Hid (∀ w, Calls Try.prog 31 #[.float .f64 y] w fun r w' => r = .returned (.bool z2) ∧ w' = w))
    (F : Hid (Q ((w.setCell ⟨g, 0, none⟩ (.int .i64 (c + 1))).setCell ⟨g, 1, none⟩ (.int .i64 (n + 1))))) :
    Calls Try.prog 14 #[.pointer (some ⟨g, 0, none⟩), .float .f64 x, .float .f64 y] w fun e w' => e = .returned (.int .i64 0) ∧ Q w' := by
  go_enter Try.func14, Try.ntmps14
  go_wp2_with fail
  refine (C1.out _).mono ?_
  rintro e w' ⟨rfl, rfl⟩
  go_wp2_with fail
  refine (C2.out _).mono ?_
  rintro e w' ⟨rfl, rfl⟩
  go_wp2_with fail
  refine (S1.out _).mono ?_
  rintro e w' ⟨rfl, rfl⟩
  go_wp2_with fail
  refine (S2.out _).mono ?_
  rintro e w' ⟨rfl, rfl⟩
  go_wp2
  go_ret
  exact ⟨rfl, F.out⟩

set_option maxHeartbeats 2000000 in
theorem zm3 (g x y : Nat) (c n : Int) (z1 z2 : Bool) (w : World) (Q : World → Prop)
    (h0 : w.cell? ⟨g, 0, none⟩ = some (.int .i64 c)) (f0 : w.frozen? ⟨g, 0, none⟩ = false) (hc0 : 0 ≤ c) (hc1 : c < 1048576) (hk : w.cell? ⟨g, 1, none⟩ = some (.int .i64 n)) (fk : w.frozen? ⟨g, 1, none⟩ = false) (hn0 : 0 ≤ n) (hn1 : n < 1048576) (hz : (!(z1 == z2)) = true)
    (C1 : Hid (∀ w, Calls Try.prog 30 #[.float .f64 x] w fun r w' => r = .returned (.int .i64 0) ∧ w' = w))
    (C2 : Hid (∀ w, Calls Try.prog 30 #[.float .f64 y] w fun r w' => r = .returned (.int .i64 0) ∧ w' = w))
    (S1 : Hid (∀ w, Calls Try.prog 31 #[.float .f64 x] w fun r w' => r = .returned (.bool z1) ∧ w' = w))
    (S2 : Hid (∀ w, Calls Try.prog 31 #[.float .f64 y] w fun r w' => r = .returned (.bool z2) ∧ w' = w))
    (F : Hid (Q ((w.setCell ⟨g, 0, none⟩ (.int .i64 (c + 1))).setCell ⟨g, 1, none⟩ (.int .i64 (n + 1))))) :
    Calls Try.prog 14 #[.pointer (some ⟨g, 0, none⟩), .float .f64 x, .float .f64 y] w fun e w' => e = .returned (.int .i64 0) ∧ Q w' := by
  go_enter Try.func14, Try.ntmps14
  go_wp2_with fail
  refine (C1.out _).mono ?_
  rintro e w' ⟨rfl, rfl⟩
  go_wp2_with fail
  refine (C2.out _).mono ?_
  rintro e w' ⟨rfl, rfl⟩
  go_wp2_with fail
  refine (S1.out _).mono ?_
  rintro e w' ⟨rfl, rfl⟩
  go_wp2_with fail
  refine (S2.out _).mono ?_
  rintro e w' ⟨rfl, rfl⟩
  go_wp2
  go_ret
  exact ⟨rfl, F.out⟩

end Go.Proofs.Ytgbnabpbheebjaa
