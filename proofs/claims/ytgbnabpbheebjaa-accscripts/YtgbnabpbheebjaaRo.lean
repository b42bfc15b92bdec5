/-
  The reference: a product more, and two sums put together: walks over the program, and what becomes of the sum.
-/
import Derived.Test.YtgbnabpbheebjaaRd
namespace Go.Proofs.Ytgbnabpbheebjaa
open Go.RowKit Tf
attribute [local go_sem] run_bits run_from raw_feq raw_fne raw_flt raw_fgt run_neg

set_option maxHeartbeats 2000000 in
set_option maxRecDepth 100000 in
theorem rp_zi (g x y : Nat) (c : Int) (z1 z2 ng : Bool) (w : World) (Q : World → Prop) (h0 : w.cell? ⟨g, 136, none⟩ = some (.int .i64 c)) (f0 : w.frozen? ⟨g, 136, none⟩ = false) (c0 : 0 ≤ c) (c1 : c < 1048576) (hng : (!(z1 == z2)) = ng) (e : Int)
    (P1 : Hid (∀ w, Calls Try.prog 27 #[.float .f64 x] w fun r w' => r = .returned (.tuple #[.bool z1, .int .u64 0, .int .i64 e, .int .i64 0]) ∧ w' = w))
    (P2 : Hid (∀ w, Calls Try.prog 27 #[.float .f64 y] w fun r w' => r = .returned (.tuple #[.bool z2, .int .u64 0, .int .i64 0, .int .i64 1]) ∧ w' = w))
    (O : Hid (Calls Try.prog 28 #[.pointer (some ⟨g, 0, none⟩), .bool ng, .bool true] (w.setCell ⟨g, 136, none⟩ (.int .i64 (c + 1))) fun r w' => r = .returned (.tuple #[]) ∧ Q w')) :
    Calls Try.prog 15 #[.pointer (some ⟨g, 0, none⟩), .float .f64 x, .float .f64 y] w fun e w' => e = .returned (.int .i64 0) ∧ Q w' := by
  go_enter Try.func15, Try.ntmps15
  go_wp2_with fail
  refine (P1.out _).mono ?_
  rintro e w1 ⟨rfl, rfl⟩
  go_wp2_with fail
  refine (P2.out _).mono ?_
  rintro e w2 ⟨rfl, rfl⟩
  go_wp2_with fail
  refine O.out.mono ?_
  rintro e w3 ⟨rfl, hQ⟩
  go_wp2
  go_ret
  exact ⟨rfl, hQ⟩
set_option maxHeartbeats 2000000 in
set_option maxRecDepth 100000 in
theorem rp_zn (g x y : Nat) (c : Int) (z1 z2 ng : Bool) (w : World) (Q : World → Prop) (h0 : w.cell? ⟨g, 136, none⟩ = some (.int .i64 c)) (f0 : w.frozen? ⟨g, 136, none⟩ = false) (c0 : 0 ≤ c) (c1 : c < 1048576) (hng : (!(z1 == z2)) = ng) (e : Int)
    (P1 : Hid (∀ w, Calls Try.prog 27 #[.float .f64 x] w fun r w' => r = .returned (.tuple #[.bool z1, .int .u64 0, .int .i64 e, .int .i64 0]) ∧ w' = w))
    (P2 : Hid (∀ w, Calls Try.prog 27 #[.float .f64 y] w fun r w' => r = .returned (.tuple #[.bool z2, .int .u64 0, .int .i64 0, .int .i64 2]) ∧ w' = w))
    (O : Hid (Calls Try.prog 28 #[.pointer (some ⟨g, 0, none⟩), .bool ng, .bool true] (w.setCell ⟨g, 136, none⟩ (.int .i64 (c + 1))) fun r w' => r = .returned (.tuple #[]) ∧ Q w')) :
    Calls Try.prog 15 #[.pointer (some ⟨g, 0, none⟩), .float .f64 x, .float .f64 y] w fun e w' => e = .returned (.int .i64 0) ∧ Q w' := by
  go_enter Try.func15, Try.ntmps15
  go_wp2_with fail
  refine (P1.out _).mono ?_
  rintro e w1 ⟨rfl, rfl⟩
  go_wp2_with fail
  refine (P2.out _).mono ?_
  rintro e w2 ⟨rfl, rfl⟩
  go_wp2_with fail
  refine O.out.mono ?_
  rintro e w3 ⟨rfl, hQ⟩
  go_wp2
  go_ret
  exact ⟨rfl, hQ⟩
set_option maxHeartbeats 2000000 in
set_option maxRecDepth 100000 in
theorem rp_fi (g x y : Nat) (c : Int) (z1 z2 ng : Bool) (w : World) (Q : World → Prop) (h0 : w.cell? ⟨g, 136, none⟩ = some (.int .i64 c)) (f0 : w.frozen? ⟨g, 136, none⟩ = false) (c0 : 0 ≤ c) (c1 : c < 1048576) (hng : (!(z1 == z2)) = ng) (m e : Int) (m0 : (m == 0) = false)
    (P1 : Hid (∀ w, Calls Try.prog 27 #[.float .f64 x] w fun r w' => r = .returned (.tuple #[.bool z1, .int .u64 m, .int .i64 e, .int .i64 0]) ∧ w' = w))
    (P2 : Hid (∀ w, Calls Try.prog 27 #[.float .f64 y] w fun r w' => r = .returned (.tuple #[.bool z2, .int .u64 0, .int .i64 0, .int .i64 1]) ∧ w' = w))
    (O : Hid (Calls Try.prog 28 #[.pointer (some ⟨g, 0, none⟩), .bool ng, .bool false] (w.setCell ⟨g, 136, none⟩ (.int .i64 (c + 1))) fun r w' => r = .returned (.tuple #[]) ∧ Q w')) :
    Calls Try.prog 15 #[.pointer (some ⟨g, 0, none⟩), .float .f64 x, .float .f64 y] w fun e w' => e = .returned (.int .i64 0) ∧ Q w' := by
  go_enter Try.func15, Try.ntmps15
  go_wp2_with fail
  refine (P1.out _).mono ?_
  rintro e w1 ⟨rfl, rfl⟩
  go_wp2_with fail
  refine (P2.out _).mono ?_
  rintro e w2 ⟨rfl, rfl⟩
  go_wp2_with fail
  refine O.out.mono ?_
  rintro e w3 ⟨rfl, hQ⟩
  go_wp2
  go_ret
  exact ⟨rfl, hQ⟩
set_option maxHeartbeats 2000000 in
set_option maxRecDepth 100000 in
theorem rp_fn (g x y : Nat) (c : Int) (z1 z2 ng : Bool) (w : World) (Q : World → Prop) (h0 : w.cell? ⟨g, 136, none⟩ = some (.int .i64 c)) (f0 : w.frozen? ⟨g, 136, none⟩ = false) (c0 : 0 ≤ c) (c1 : c < 1048576) (hng : (!(z1 == z2)) = ng) (m e : Int) (m0 : (m == 0) = false)
    (P1 : Hid (∀ w, Calls Try.prog 27 #[.float .f64 x] w fun r w' => r = .returned (.tuple #[.bool z1, .int .u64 m, .int .i64 e, .int .i64 0]) ∧ w' = w))
    (P2 : Hid (∀ w, Calls Try.prog 27 #[.float .f64 y] w fun r w' => r = .returned (.tuple #[.bool z2, .int .u64 0, .int .i64 0, .int .i64 2]) ∧ w' = w))
    (O : Hid (Calls Try.prog 28 #[.pointer (some ⟨g, 0, none⟩), .bool ng, .bool true] (w.setCell ⟨g, 136, none⟩ (.int .i64 (c + 1))) fun r w' => r = .returned (.tuple #[]) ∧ Q w')) :
    Calls Try.prog 15 #[.pointer (some ⟨g, 0, none⟩), .float .f64 x, .float .f64 y] w fun e w' => e = .returned (.int .i64 0) ∧ Q w' := by
  go_enter Try.func15, Try.ntmps15
  go_wp2_with fail
  refine (P1.out _).mono ?_
  rintro e w1 ⟨rfl, rfl⟩
  go_wp2_with fail
  refine (P2.out _).mono ?_
  rintro e w2 ⟨rfl, rfl⟩
  go_wp2_with fail
  refine O.out.mono ?_
  rintro e w3 ⟨rfl, hQ⟩
  go_wp2
  go_ret
  exact ⟨rfl, hQ⟩
set_option maxHeartbeats 2000000 in
set_option maxRecDepth 100000 in
theorem rp_iz (g x y : Nat) (c : Int) (z1 z2 ng : Bool) (w : World) (Q : World → Prop) (h0 : w.cell? ⟨g, 136, none⟩ = some (.int .i64 c)) (f0 : w.frozen? ⟨g, 136, none⟩ = false) (c0 : 0 ≤ c) (c1 : c < 1048576) (hng : (!(z1 == z2)) = ng) (f : Int)
    (P1 : Hid (∀ w, Calls Try.prog 27 #[.float .f64 x] w fun r w' => r = .returned (.tuple #[.bool z1, .int .u64 0, .int .i64 0, .int .i64 1]) ∧ w' = w))
    (P2 : Hid (∀ w, Calls Try.prog 27 #[.float .f64 y] w fun r w' => r = .returned (.tuple #[.bool z2, .int .u64 0, .int .i64 f, .int .i64 0]) ∧ w' = w))
    (O : Hid (Calls Try.prog 28 #[.pointer (some ⟨g, 0, none⟩), .bool ng, .bool true] (w.setCell ⟨g, 136, none⟩ (.int .i64 (c + 1))) fun r w' => r = .returned (.tuple #[]) ∧ Q w')) :
    Calls Try.prog 15 #[.pointer (some ⟨g, 0, none⟩), .float .f64 x, .float .f64 y] w fun e w' => e = .returned (.int .i64 0) ∧ Q w' := by
  go_enter Try.func15, Try.ntmps15
  go_wp2_with fail
  refine (P1.out _).mono ?_
  rintro e w1 ⟨rfl, rfl⟩
  go_wp2_with fail
  refine (P2.out _).mono ?_
  rintro e w2 ⟨rfl, rfl⟩
  go_wp2_with fail
  refine O.out.mono ?_
  rintro e w3 ⟨rfl, hQ⟩
  go_wp2
  go_ret
  exact ⟨rfl, hQ⟩
set_option maxHeartbeats 2000000 in
set_option maxRecDepth 100000 in
theorem rp_if (g x y : Nat) (c : Int) (z1 z2 ng : Bool) (w : World) (Q : World → Prop) (h0 : w.cell? ⟨g, 136, none⟩ = some (.int .i64 c)) (f0 : w.frozen? ⟨g, 136, none⟩ = false) (c0 : 0 ≤ c) (c1 : c < 1048576) (hng : (!(z1 == z2)) = ng) (k f : Int) (k0 : (k == 0) = false)
    (P1 : Hid (∀ w, Calls Try.prog 27 #[.float .f64 x] w fun r w' => r = .returned (.tuple #[.bool z1, .int .u64 0, .int .i64 0, .int .i64 1]) ∧ w' = w))
    (P2 : Hid (∀ w, Calls Try.prog 27 #[.float .f64 y] w fun r w' => r = .returned (.tuple #[.bool z2, .int .u64 k, .int .i64 f, .int .i64 0]) ∧ w' = w))
    (O : Hid (Calls Try.prog 28 #[.pointer (some ⟨g, 0, none⟩), .bool ng, .bool false] (w.setCell ⟨g, 136, none⟩ (.int .i64 (c + 1))) fun r w' => r = .returned (.tuple #[]) ∧ Q w')) :
    Calls Try.prog 15 #[.pointer (some ⟨g, 0, none⟩), .float .f64 x, .float .f64 y] w fun e w' => e = .returned (.int .i64 0) ∧ Q w' := by
  go_enter Try.func15, Try.ntmps15
  go_wp2_with fail
  refine (P1.out _).mono ?_
  rintro e w1 ⟨rfl, rfl⟩
  go_wp2_with fail
  refine (P2.out _).mono ?_
  rintro e w2 ⟨rfl, rfl⟩
  go_wp2_with fail
  refine O.out.mono ?_
  rintro e w3 ⟨rfl, hQ⟩
  go_wp2
  go_ret
  exact ⟨rfl, hQ⟩
set_option maxHeartbeats 2000000 in
set_option maxRecDepth 100000 in
theorem rp_ii (g x y : Nat) (c : Int) (z1 z2 ng : Bool) (w : World) (Q : World → Prop) (h0 : w.cell? ⟨g, 136, none⟩ = some (.int .i64 c)) (f0 : w.frozen? ⟨g, 136, none⟩ = false) (c0 : 0 ≤ c) (c1 : c < 1048576) (hng : (!(z1 == z2)) = ng)
    (P1 : Hid (∀ w, Calls Try.prog 27 #[.float .f64 x] w fun r w' => r = .returned (.tuple #[.bool z1, .int .u64 0, .int .i64 0, .int .i64 1]) ∧ w' = w))
    (P2 : Hid (∀ w, Calls Try.prog 27 #[.float .f64 y] w fun r w' => r = .returned (.tuple #[.bool z2, .int .u64 0, .int .i64 0, .int .i64 1]) ∧ w' = w))
    (O : Hid (Calls Try.prog 28 #[.pointer (some ⟨g, 0, none⟩), .bool ng, .bool false] (w.setCell ⟨g, 136, none⟩ (.int .i64 (c + 1))) fun r w' => r = .returned (.tuple #[]) ∧ Q w')) :
    Calls Try.prog 15 #[.pointer (some ⟨g, 0, none⟩), .float .f64 x, .float .f64 y] w fun e w' => e = .returned (.int .i64 0) ∧ Q w' := by
  go_enter Try.func15, Try.ntmps15
  go_wp2_with fail
  refine (P1.out _).mono ?_
  rintro e w1 ⟨rfl, rfl⟩
  go_wp2_with fail
  refine (P2.out _).mono ?_
  rintro e w2 ⟨rfl, rfl⟩
  go_wp2_with fail
  refine O.out.mono ?_
  rintro e w3 ⟨rfl, hQ⟩
  go_wp2
  go_ret
  exact ⟨rfl, hQ⟩
set_option maxHeartbeats 2000000 in
set_option maxRecDepth 100000 in
theorem rp_in (g x y : Nat) (c : Int) (z1 z2 ng : Bool) (w : World) (Q : World → Prop) (h0 : w.cell? ⟨g, 136, none⟩ = some (.int .i64 c)) (f0 : w.frozen? ⟨g, 136, none⟩ = false) (c0 : 0 ≤ c) (c1 : c < 1048576) (hng : (!(z1 == z2)) = ng)
    (P1 : Hid (∀ w, Calls Try.prog 27 #[.float .f64 x] w fun r w' => r = .returned (.tuple #[.bool z1, .int .u64 0, .int .i64 0, .int .i64 1]) ∧ w' = w))
    (P2 : Hid (∀ w, Calls Try.prog 27 #[.float .f64 y] w fun r w' => r = .returned (.tuple #[.bool z2, .int .u64 0, .int .i64 0, .int .i64 2]) ∧ w' = w))
    (O : Hid (Calls Try.prog 28 #[.pointer (some ⟨g, 0, none⟩), .bool ng, .bool true] (w.setCell ⟨g, 136, none⟩ (.int .i64 (c + 1))) fun r w' => r = .returned (.tuple #[]) ∧ Q w')) :
    Calls Try.prog 15 #[.pointer (some ⟨g, 0, none⟩), .float .f64 x, .float .f64 y] w fun e w' => e = .returned (.int .i64 0) ∧ Q w' := by
  go_enter Try.func15, Try.ntmps15
  go_wp2_with fail
  refine (P1.out _).mono ?_
  rintro e w1 ⟨rfl, rfl⟩
  go_wp2_with fail
  refine (P2.out _).mono ?_
  rintro e w2 ⟨rfl, rfl⟩
  go_wp2_with fail
  refine O.out.mono ?_
  rintro e w3 ⟨rfl, hQ⟩
  go_wp2
  go_ret
  exact ⟨rfl, hQ⟩
set_option maxHeartbeats 2000000 in
set_option maxRecDepth 100000 in
theorem rp_nz (g x y : Nat) (c : Int) (z1 z2 ng : Bool) (w : World) (Q : World → Prop) (h0 : w.cell? ⟨g, 136, none⟩ = some (.int .i64 c)) (f0 : w.frozen? ⟨g, 136, none⟩ = false) (c0 : 0 ≤ c) (c1 : c < 1048576) (hng : (!(z1 == z2)) = ng) (f : Int)
    (P1 : Hid (∀ w, Calls Try.prog 27 #[.float .f64 x] w fun r w' => r = .returned (.tuple #[.bool z1, .int .u64 0, .int .i64 0, .int .i64 2]) ∧ w' = w))
    (P2 : Hid (∀ w, Calls Try.prog 27 #[.float .f64 y] w fun r w' => r = .returned (.tuple #[.bool z2, .int .u64 0, .int .i64 f, .int .i64 0]) ∧ w' = w))
    (O : Hid (Calls Try.prog 28 #[.pointer (some ⟨g, 0, none⟩), .bool ng, .bool true] (w.setCell ⟨g, 136, none⟩ (.int .i64 (c + 1))) fun r w' => r = .returned (.tuple #[]) ∧ Q w')) :
    Calls Try.prog 15 #[.pointer (some ⟨g, 0, none⟩), .float .f64 x, .float .f64 y] w fun e w' => e = .returned (.int .i64 0) ∧ Q w' := by
  go_enter Try.func15, Try.ntmps15
  go_wp2_with fail
  refine (P1.out _).mono ?_
  rintro e w1 ⟨rfl, rfl⟩
  go_wp2_with fail
  refine (P2.out _).mono ?_
  rintro e w2 ⟨rfl, rfl⟩
  go_wp2_with fail
  refine O.out.mono ?_
  rintro e w3 ⟨rfl, hQ⟩
  go_wp2
  go_ret
  exact ⟨rfl, hQ⟩
set_option maxHeartbeats 2000000 in
set_option maxRecDepth 100000 in
theorem rp_nf (g x y : Nat) (c : Int) (z1 z2 ng : Bool) (w : World) (Q : World → Prop) (h0 : w.cell? ⟨g, 136, none⟩ = some (.int .i64 c)) (f0 : w.frozen? ⟨g, 136, none⟩ = false) (c0 : 0 ≤ c) (c1 : c < 1048576) (hng : (!(z1 == z2)) = ng) (k f : Int) (k0 : (k == 0) = false)
    (P1 : Hid (∀ w, Calls Try.prog 27 #[.float .f64 x] w fun r w' => r = .returned (.tuple #[.bool z1, .int .u64 0, .int .i64 0, .int .i64 2]) ∧ w' = w))
    (P2 : Hid (∀ w, Calls Try.prog 27 #[.float .f64 y] w fun r w' => r = .returned (.tuple #[.bool z2, .int .u64 k, .int .i64 f, .int .i64 0]) ∧ w' = w))
    (O : Hid (Calls Try.prog 28 #[.pointer (some ⟨g, 0, none⟩), .bool ng, .bool true] (w.setCell ⟨g, 136, none⟩ (.int .i64 (c + 1))) fun r w' => r = .returned (.tuple #[]) ∧ Q w')) :
    Calls Try.prog 15 #[.pointer (some ⟨g, 0, none⟩), .float .f64 x, .float .f64 y] w fun e w' => e = .returned (.int .i64 0) ∧ Q w' := by
  go_enter Try.func15, Try.ntmps15
  go_wp2_with fail
  refine (P1.out _).mono ?_
  rintro e w1 ⟨rfl, rfl⟩
  go_wp2_with fail
  refine (P2.out _).mono ?_
  rintro e w2 ⟨rfl, rfl⟩
  go_wp2_with fail
  refine O.out.mono ?_
  rintro e w3 ⟨rfl, hQ⟩
  go_wp2
  go_ret
  exact ⟨rfl, hQ⟩
set_option maxHeartbeats 2000000 in
set_option maxRecDepth 100000 in
theorem rp_ni (g x y : Nat) (c : Int) (z1 z2 ng : Bool) (w : World) (Q : World → Prop) (h0 : w.cell? ⟨g, 136, none⟩ = some (.int .i64 c)) (f0 : w.frozen? ⟨g, 136, none⟩ = false) (c0 : 0 ≤ c) (c1 : c < 1048576) (hng : (!(z1 == z2)) = ng)
    (P1 : Hid (∀ w, Calls Try.prog 27 #[.float .f64 x] w fun r w' => r = .returned (.tuple #[.bool z1, .int .u64 0, .int .i64 0, .int .i64 2]) ∧ w' = w))
    (P2 : Hid (∀ w, Calls Try.prog 27 #[.float .f64 y] w fun r w' => r = .returned (.tuple #[.bool z2, .int .u64 0, .int .i64 0, .int .i64 1]) ∧ w' = w))
    (O : Hid (Calls Try.prog 28 #[.pointer (some ⟨g, 0, none⟩), .bool ng, .bool true] (w.setCell ⟨g, 136, none⟩ (.int .i64 (c + 1))) fun r w' => r = .returned (.tuple #[]) ∧ Q w')) :
    Calls Try.prog 15 #[.pointer (some ⟨g, 0, none⟩), .float .f64 x, .float .f64 y] w fun e w' => e = .returned (.int .i64 0) ∧ Q w' := by
  go_enter Try.func15, Try.ntmps15
  go_wp2_with fail
  refine (P1.out _).mono ?_
  rintro e w1 ⟨rfl, rfl⟩
  go_wp2_with fail
  refine (P2.out _).mono ?_
  rintro e w2 ⟨rfl, rfl⟩
  go_wp2_with fail
  refine O.out.mono ?_
  rintro e w3 ⟨rfl, hQ⟩
  go_wp2
  go_ret
  exact ⟨rfl, hQ⟩
set_option maxHeartbeats 2000000 in
set_option maxRecDepth 100000 in
theorem rp_nn (g x y : Nat) (c : Int) (z1 z2 ng : Bool) (w : World) (Q : World → Prop) (h0 : w.cell? ⟨g, 136, none⟩ = some (.int .i64 c)) (f0 : w.frozen? ⟨g, 136, none⟩ = false) (c0 : 0 ≤ c) (c1 : c < 1048576) (hng : (!(z1 == z2)) = ng)
    (P1 : Hid (∀ w, Calls Try.prog 27 #[.float .f64 x] w fun r w' => r = .returned (.tuple #[.bool z1, .int .u64 0, .int .i64 0, .int .i64 2]) ∧ w' = w))
    (P2 : Hid (∀ w, Calls Try.prog 27 #[.float .f64 y] w fun r w' => r = .returned (.tuple #[.bool z2, .int .u64 0, .int .i64 0, .int .i64 2]) ∧ w' = w))
    (O : Hid (Calls Try.prog 28 #[.pointer (some ⟨g, 0, none⟩), .bool ng, .bool true] (w.setCell ⟨g, 136, none⟩ (.int .i64 (c + 1))) fun r w' => r = .returned (.tuple #[]) ∧ Q w')) :
    Calls Try.prog 15 #[.pointer (some ⟨g, 0, none⟩), .float .f64 x, .float .f64 y] w fun e w' => e = .returned (.int .i64 0) ∧ Q w' := by
  go_enter Try.func15, Try.ntmps15
  go_wp2_with fail
  refine (P1.out _).mono ?_
  rintro e w1 ⟨rfl, rfl⟩
  go_wp2_with fail
  refine (P2.out _).mono ?_
  rintro e w2 ⟨rfl, rfl⟩
  go_wp2_with fail
  refine O.out.mono ?_
  rintro e w3 ⟨rfl, hQ⟩
  go_wp2
  go_ret
  exact ⟨rfl, hQ⟩
end Go.Proofs.Ytgbnabpbheebjaa
namespace Go.Proofs.Ytgbnabpbheebjaa
open Go.RowKit Tf
attribute [local go_sem] run_bits run_from raw_feq raw_fne raw_flt raw_fgt run_neg

set_option maxHeartbeats 4000000 in
set_option maxRecDepth 100000 in
theorem rp_fin1 (g x y : Nat) (c : Int) (z1 z2 ng : Bool) (w : World) (Q : World → Prop) (h0 : w.cell? ⟨g, 136, none⟩ = some (.int .i64 c)) (f0 : w.frozen? ⟨g, 136, none⟩ = false) (c0 : 0 ≤ c) (c1 : c < 1048576) (hng : (!(z1 == z2)) = ng) (e f m k m0 m1 k0 k1 p00 p01 p10 p11 : Int) (R1 R2 R3 : World → Prop)
    (h1 : w.cell? ⟨g, 140, none⟩ = some (.bool true)) (f1 : w.frozen? ⟨g, 140, none⟩ = false) (ml : 0 ≤ m) (mh : m < 9007199254740992) (kl : 0 ≤ k) (kh : k < 9007199254740992)
    (el : -1074 ≤ e) (eh : e < 1000) (fl : -1074 ≤ f) (fh : f < 1000)
    (hm0 : m % 4294967296 = m0) (hm1 : m / 4294967296 % 4294967296 = m1) (hk0 : k % 4294967296 = k0) (hk1 : k / 4294967296 % 4294967296 = k1)
    (hp00 : m0 * k0 = p00) (hp01 : m0 * k1 = p01) (hp10 : m1 * k0 = p10) (hp11 : m1 * k1 = p11)
    (a00 : 0 ≤ p00) (b00 : p00 < 18446744073709551616) (a01 : 0 ≤ p01) (b01 : p01 < 18446744073709551616) (a10 : 0 ≤ p10) (b10 : p10 < 18446744073709551616) (a11 : 0 ≤ p11) (b11 : p11 < 18446744073709551616)
    (P1 : Hid (∀ w, Calls Try.prog 27 #[.float .f64 x] w fun r w' => r = .returned (.tuple #[.bool z1, .int .u64 m, .int .i64 e, .int .i64 0]) ∧ w' = w))
    (P2 : Hid (∀ w, Calls Try.prog 27 #[.float .f64 y] w fun r w' => r = .returned (.tuple #[.bool z2, .int .u64 k, .int .i64 f, .int .i64 0]) ∧ w' = w))
    (O0 : Hid (Calls Try.prog 29 #[.pointer (some ⟨g, 0, none⟩), .bool ng, .int .u64 p00, .int .i64 (e + f)] ((w.setCell ⟨g, 136, none⟩ (.int .i64 (c + 1))).setCell ⟨g, 140, none⟩ (.bool true)) fun r w' => r = .returned (.tuple #[]) ∧ R1 w'))
    (O1 : Hid (∀ w, R1 w → Calls Try.prog 29 #[.pointer (some ⟨g, 0, none⟩), .bool ng, .int .u64 p01, .int .i64 (e + f + 32)] w fun r w' => r = .returned (.tuple #[]) ∧ R2 w'))
    (O2 : Hid (∀ w, R2 w → Calls Try.prog 29 #[.pointer (some ⟨g, 0, none⟩), .bool ng, .int .u64 p10, .int .i64 (e + f + 32)] w fun r w' => r = .returned (.tuple #[]) ∧ R3 w'))
    (O3 : Hid (∀ w, R3 w → Calls Try.prog 29 #[.pointer (some ⟨g, 0, none⟩), .bool ng, .int .u64 p11, .int .i64 (e + f + 32 + 32)] w fun r w' => r = .returned (.tuple #[]) ∧ Q w')) :
    Calls Try.prog 15 #[.pointer (some ⟨g, 0, none⟩), .float .f64 x, .float .f64 y] w fun e w' => e = .returned (.int .i64 0) ∧ Q w' := by
  go_enter Try.func15, Try.ntmps15
  go_wp2_with fail
  refine (P1.out _).mono ?_
  rintro e w1 ⟨rfl, rfl⟩
  go_wp2_with fail
  refine (P2.out _).mono ?_
  rintro e w2 ⟨rfl, rfl⟩
  go_wp2
  go_loopw [17] (fun iv wr => (iv = .int .i64 0 ∧ wr = (w.setCell ⟨g, 136, none⟩ (.int .i64 (c + 1))).setCell ⟨g, 140, none⟩ (.bool true)) ∨ (iv = .int .i64 1 ∧ R2 wr) ∨ (iv = .int .i64 2 ∧ Q wr)) (fun iv _ => 2 - (intOf iv).toNat)
  case atStart => exact .inl ⟨rfl, rfl⟩
  case round =>
    rcases hrel with ⟨rfl, rfl⟩ | ⟨rfl, hR⟩ | ⟨rfl, hR⟩
    · go_wp2
      go_loopw [18] (fun jv wr => (jv = .int .i64 0 ∧ wr = (w.setCell ⟨g, 136, none⟩ (.int .i64 (c + 1))).setCell ⟨g, 140, none⟩ (.bool true)) ∨ (jv = .int .i64 1 ∧ R1 wr) ∨ (jv = .int .i64 2 ∧ R2 wr)) (fun jv _ => 2 - (intOf jv).toNat)
      case atStart => exact .inl ⟨rfl, rfl⟩
      case round =>
        rcases hrel with ⟨rfl, rfl⟩ | ⟨rfl, hR⟩ | ⟨rfl, hR⟩
        · go_wp2_with fail
          refine O0.out.mono ?_
          rintro e w3 ⟨rfl, hR⟩
          go_wp2
          exact ⟨.inr (.inl ⟨rfl, hR⟩), by simp [intOf]⟩
        · go_wp2_with fail
          refine (O1.out _ hR).mono ?_
          rintro e w3 ⟨rfl, hR'⟩
          go_wp2
          exact ⟨.inr (.inr ⟨rfl, hR'⟩), by simp [intOf]⟩
        · go_wp2
          exact ⟨.inr (.inl ⟨rfl, hR⟩), by simp [intOf]⟩
    · go_wp2
      go_loopw [18] (fun jv wr => (jv = .int .i64 0 ∧ R2 wr) ∨ (jv = .int .i64 1 ∧ R3 wr) ∨ (jv = .int .i64 2 ∧ Q wr)) (fun jv _ => 2 - (intOf jv).toNat)
      case atStart => exact .inl ⟨rfl, hR⟩
      case round =>
        clear hR
        rcases hrel with ⟨rfl, hR⟩ | ⟨rfl, hR⟩ | ⟨rfl, hR⟩
        · go_wp2_with fail
          refine (O2.out _ hR).mono ?_
          rintro e w3 ⟨rfl, hR'⟩
          go_wp2
          exact ⟨.inr (.inl ⟨rfl, hR'⟩), by simp [intOf]⟩
        · go_wp2_with fail
          refine (O3.out _ hR).mono ?_
          rintro e w3 ⟨rfl, hR'⟩
          go_wp2
          exact ⟨.inr (.inr ⟨rfl, hR'⟩), by simp [intOf]⟩
        · go_wp2
          exact ⟨.inr (.inr ⟨rfl, hR⟩), by simp [intOf]⟩
    · go_wp2
      go_ret
      exact ⟨rfl, hR⟩
set_option maxHeartbeats 4000000 in
set_option maxRecDepth 100000 in
theorem rp_fin2 (g x y : Nat) (c : Int) (z1 z2 ng : Bool) (w : World) (Q : World → Prop) (h0 : w.cell? ⟨g, 136, none⟩ = some (.int .i64 c)) (f0 : w.frozen? ⟨g, 136, none⟩ = false) (c0 : 0 ≤ c) (c1 : c < 1048576) (hng : (!(z1 == z2)) = ng) (e f m k m0 m1 k0 k1 p00 p01 p10 p11 : Int) (R1 R2 R3 : World → Prop)
    (h1 : w.cell? ⟨g, 140, none⟩ = some (.bool false)) (f1 : w.frozen? ⟨g, 140, none⟩ = false) (mp : 0 < m) (kp : 0 < k) (_ml : 0 ≤ m) (mh : m < 9007199254740992) (_kl : 0 ≤ k) (kh : k < 9007199254740992)
    (el : -1074 ≤ e) (eh : e < 1000) (fl : -1074 ≤ f) (fh : f < 1000)
    (hm0 : m % 4294967296 = m0) (hm1 : m / 4294967296 % 4294967296 = m1) (hk0 : k % 4294967296 = k0) (hk1 : k / 4294967296 % 4294967296 = k1)
    (hp00 : m0 * k0 = p00) (hp01 : m0 * k1 = p01) (hp10 : m1 * k0 = p10) (hp11 : m1 * k1 = p11)
    (a00 : 0 ≤ p00) (b00 : p00 < 18446744073709551616) (a01 : 0 ≤ p01) (b01 : p01 < 18446744073709551616) (a10 : 0 ≤ p10) (b10 : p10 < 18446744073709551616) (a11 : 0 ≤ p11) (b11 : p11 < 18446744073709551616)
    (P1 : Hid (∀ w, Calls Try.prog 27 #[.float .f64 x] w fun r w' => r = .returned (.tuple #[.bool z1, .int .u64 m, .int .i64 e, .int .i64 0]) ∧ w' = w))
    (P2 : Hid (∀ w, Calls Try.prog 27 #[.float .f64 y] w fun r w' => r = .returned (.tuple #[.bool z2, .int .u64 k, .int .i64 f, .int .i64 0]) ∧ w' = w))
    (O0 : Hid (Calls Try.prog 29 #[.pointer (some ⟨g, 0, none⟩), .bool ng, .int .u64 p00, .int .i64 (e + f)] ((w.setCell ⟨g, 136, none⟩ (.int .i64 (c + 1))).setCell ⟨g, 140, none⟩ (.bool true)) fun r w' => r = .returned (.tuple #[]) ∧ R1 w'))
    (O1 : Hid (∀ w, R1 w → Calls Try.prog 29 #[.pointer (some ⟨g, 0, none⟩), .bool ng, .int .u64 p01, .int .i64 (e + f + 32)] w fun r w' => r = .returned (.tuple #[]) ∧ R2 w'))
    (O2 : Hid (∀ w, R2 w → Calls Try.prog 29 #[.pointer (some ⟨g, 0, none⟩), .bool ng, .int .u64 p10, .int .i64 (e + f + 32)] w fun r w' => r = .returned (.tuple #[]) ∧ R3 w'))
    (O3 : Hid (∀ w, R3 w → Calls Try.prog 29 #[.pointer (some ⟨g, 0, none⟩), .bool ng, .int .u64 p11, .int .i64 (e + f + 32 + 32)] w fun r w' => r = .returned (.tuple #[]) ∧ Q w')) :
    Calls Try.prog 15 #[.pointer (some ⟨g, 0, none⟩), .float .f64 x, .float .f64 y] w fun e w' => e = .returned (.int .i64 0) ∧ Q w' := by
  go_enter Try.func15, Try.ntmps15
  go_wp2_with fail
  refine (P1.out _).mono ?_
  rintro e w1 ⟨rfl, rfl⟩
  go_wp2_with fail
  refine (P2.out _).mono ?_
  rintro e w2 ⟨rfl, rfl⟩
  go_wp2
  go_loopw [17] (fun iv wr => (iv = .int .i64 0 ∧ wr = (w.setCell ⟨g, 136, none⟩ (.int .i64 (c + 1))).setCell ⟨g, 140, none⟩ (.bool true)) ∨ (iv = .int .i64 1 ∧ R2 wr) ∨ (iv = .int .i64 2 ∧ Q wr)) (fun iv _ => 2 - (intOf iv).toNat)
  case atStart => exact .inl ⟨rfl, rfl⟩
  case round =>
    rcases hrel with ⟨rfl, rfl⟩ | ⟨rfl, hR⟩ | ⟨rfl, hR⟩
    · go_wp2
      go_loopw [18] (fun jv wr => (jv = .int .i64 0 ∧ wr = (w.setCell ⟨g, 136, none⟩ (.int .i64 (c + 1))).setCell ⟨g, 140, none⟩ (.bool true)) ∨ (jv = .int .i64 1 ∧ R1 wr) ∨ (jv = .int .i64 2 ∧ R2 wr)) (fun jv _ => 2 - (intOf jv).toNat)
      case atStart => exact .inl ⟨rfl, rfl⟩
      case round =>
        rcases hrel with ⟨rfl, rfl⟩ | ⟨rfl, hR⟩ | ⟨rfl, hR⟩
        · go_wp2_with fail
          refine O0.out.mono ?_
          rintro e w3 ⟨rfl, hR⟩
          go_wp2
          exact ⟨.inr (.inl ⟨rfl, hR⟩), by simp [intOf]⟩
        · go_wp2_with fail
          refine (O1.out _ hR).mono ?_
          rintro e w3 ⟨rfl, hR'⟩
          go_wp2
          exact ⟨.inr (.inr ⟨rfl, hR'⟩), by simp [intOf]⟩
        · go_wp2
          exact ⟨.inr (.inl ⟨rfl, hR⟩), by simp [intOf]⟩
    · go_wp2
      go_loopw [18] (fun jv wr => (jv = .int .i64 0 ∧ R2 wr) ∨ (jv = .int .i64 1 ∧ R3 wr) ∨ (jv = .int .i64 2 ∧ Q wr)) (fun jv _ => 2 - (intOf jv).toNat)
      case atStart => exact .inl ⟨rfl, hR⟩
      case round =>
        clear hR
        rcases hrel with ⟨rfl, hR⟩ | ⟨rfl, hR⟩ | ⟨rfl, hR⟩
        · go_wp2_with fail
          refine (O2.out _ hR).mono ?_
          rintro e w3 ⟨rfl, hR'⟩
          go_wp2
          exact ⟨.inr (.inl ⟨rfl, hR'⟩), by simp [intOf]⟩
        · go_wp2_with fail
          refine (O3.out _ hR).mono ?_
          rintro e w3 ⟨rfl, hR'⟩
          go_wp2
          exact ⟨.inr (.inr ⟨rfl, hR'⟩), by simp [intOf]⟩
        · go_wp2
          exact ⟨.inr (.inr ⟨rfl, hR⟩), by simp [intOf]⟩
    · go_wp2
      go_ret
      exact ⟨rfl, hR⟩
set_option maxHeartbeats 4000000 in
set_option maxRecDepth 100000 in
theorem rp_fin3 (g x y : Nat) (c : Int) (z1 z2 : Bool) (w : World) (Q : World → Prop) (h0 : w.cell? ⟨g, 136, none⟩ = some (.int .i64 c)) (f0 : w.frozen? ⟨g, 136, none⟩ = false) (c0 : 0 ≤ c) (c1 : c < 1048576) (hng : (!(z1 == z2)) = false) (e f k : Int) (R1 R2 R3 : World → Prop)
    (h1 : w.cell? ⟨g, 140, none⟩ = some (.bool false)) (f1 : w.frozen? ⟨g, 140, none⟩ = false) (_ml : 0 ≤ 0) (_mh : 0 < 9007199254740992) (kl : 0 ≤ k) (kh : k < 9007199254740992)
    (el : -1074 ≤ e) (eh : e < 1000) (fl : -1074 ≤ f) (fh : f < 1000)
    (P1 : Hid (∀ w, Calls Try.prog 27 #[.float .f64 x] w fun r w' => r = .returned (.tuple #[.bool z1, .int .u64 0, .int .i64 e, .int .i64 0]) ∧ w' = w))
    (P2 : Hid (∀ w, Calls Try.prog 27 #[.float .f64 y] w fun r w' => r = .returned (.tuple #[.bool z2, .int .u64 k, .int .i64 f, .int .i64 0]) ∧ w' = w))
    (O0 : Hid (Calls Try.prog 29 #[.pointer (some ⟨g, 0, none⟩), .bool false, .int .u64 0, .int .i64 (e + f)] ((w.setCell ⟨g, 136, none⟩ (.int .i64 (c + 1))).setCell ⟨g, 140, none⟩ (.bool true)) fun r w' => r = .returned (.tuple #[]) ∧ R1 w'))
    (O1 : Hid (∀ w, R1 w → Calls Try.prog 29 #[.pointer (some ⟨g, 0, none⟩), .bool false, .int .u64 0, .int .i64 (e + f + 32)] w fun r w' => r = .returned (.tuple #[]) ∧ R2 w'))
    (O2 : Hid (∀ w, R2 w → Calls Try.prog 29 #[.pointer (some ⟨g, 0, none⟩), .bool false, .int .u64 0, .int .i64 (e + f + 32)] w fun r w' => r = .returned (.tuple #[]) ∧ R3 w'))
    (O3 : Hid (∀ w, R3 w → Calls Try.prog 29 #[.pointer (some ⟨g, 0, none⟩), .bool false, .int .u64 0, .int .i64 (e + f + 32 + 32)] w fun r w' => r = .returned (.tuple #[]) ∧ Q w')) :
    Calls Try.prog 15 #[.pointer (some ⟨g, 0, none⟩), .float .f64 x, .float .f64 y] w fun e w' => e = .returned (.int .i64 0) ∧ Q w' := by
  go_enter Try.func15, Try.ntmps15
  go_wp2_with fail
  refine (P1.out _).mono ?_
  rintro e w1 ⟨rfl, rfl⟩
  go_wp2_with fail
  refine (P2.out _).mono ?_
  rintro e w2 ⟨rfl, rfl⟩
  go_wp2
  go_loopw [17] (fun iv wr => (iv = .int .i64 0 ∧ wr = (w.setCell ⟨g, 136, none⟩ (.int .i64 (c + 1))).setCell ⟨g, 140, none⟩ (.bool true)) ∨ (iv = .int .i64 1 ∧ R2 wr) ∨ (iv = .int .i64 2 ∧ Q wr)) (fun iv _ => 2 - (intOf iv).toNat)
  case atStart => exact .inl ⟨rfl, rfl⟩
  case round =>
    rcases hrel with ⟨rfl, rfl⟩ | ⟨rfl, hR⟩ | ⟨rfl, hR⟩
    · go_wp2
      go_loopw [18] (fun jv wr => (jv = .int .i64 0 ∧ wr = (w.setCell ⟨g, 136, none⟩ (.int .i64 (c + 1))).setCell ⟨g, 140, none⟩ (.bool true)) ∨ (jv = .int .i64 1 ∧ R1 wr) ∨ (jv = .int .i64 2 ∧ R2 wr)) (fun jv _ => 2 - (intOf jv).toNat)
      case atStart => exact .inl ⟨rfl, rfl⟩
      case round =>
        rcases hrel with ⟨rfl, rfl⟩ | ⟨rfl, hR⟩ | ⟨rfl, hR⟩
        · go_wp2_with fail
          refine O0.out.mono ?_
          rintro e w3 ⟨rfl, hR⟩
          go_wp2
          exact ⟨.inr (.inl ⟨rfl, hR⟩), by simp [intOf]⟩
        · go_wp2_with fail
          refine (O1.out _ hR).mono ?_
          rintro e w3 ⟨rfl, hR'⟩
          go_wp2
          exact ⟨.inr (.inr ⟨rfl, hR'⟩), by simp [intOf]⟩
        · go_wp2
          exact ⟨.inr (.inl ⟨rfl, hR⟩), by simp [intOf]⟩
    · go_wp2
      go_loopw [18] (fun jv wr => (jv = .int .i64 0 ∧ R2 wr) ∨ (jv = .int .i64 1 ∧ R3 wr) ∨ (jv = .int .i64 2 ∧ Q wr)) (fun jv _ => 2 - (intOf jv).toNat)
      case atStart => exact .inl ⟨rfl, hR⟩
      case round =>
        clear hR
        rcases hrel with ⟨rfl, hR⟩ | ⟨rfl, hR⟩ | ⟨rfl, hR⟩
        · go_wp2_with fail
          refine (O2.out _ hR).mono ?_
          rintro e w3 ⟨rfl, hR'⟩
          go_wp2
          exact ⟨.inr (.inl ⟨rfl, hR'⟩), by simp [intOf]⟩
        · go_wp2_with fail
          refine (O3.out _ hR).mono ?_
          rintro e w3 ⟨rfl, hR'⟩
          go_wp2
          exact ⟨.inr (.inr ⟨rfl, hR'⟩), by simp [intOf]⟩
        · go_wp2
          exact ⟨.inr (.inr ⟨rfl, hR⟩), by simp [intOf]⟩
    · go_wp2
      go_ret
      exact ⟨rfl, hR⟩
set_option maxHeartbeats 4000000 in
set_option maxRecDepth 100000 in
theorem rp_fin4 (g x y : Nat) (c : Int) (z1 z2 : Bool) (w : World) (Q : World → Prop) (h0 : w.cell? ⟨g, 136, none⟩ = some (.int .i64 c)) (f0 : w.frozen? ⟨g, 136, none⟩ = false) (c0 : 0 ≤ c) (c1 : c < 1048576) (hng : (!(z1 == z2)) = true) (e f k : Int) (R1 R2 R3 : World → Prop)
    (h1 : w.cell? ⟨g, 140, none⟩ = some (.bool false)) (f1 : w.frozen? ⟨g, 140, none⟩ = false) (_ml : 0 ≤ 0) (_mh : 0 < 9007199254740992) (kl : 0 ≤ k) (kh : k < 9007199254740992)
    (el : -1074 ≤ e) (eh : e < 1000) (fl : -1074 ≤ f) (fh : f < 1000)
    (P1 : Hid (∀ w, Calls Try.prog 27 #[.float .f64 x] w fun r w' => r = .returned (.tuple #[.bool z1, .int .u64 0, .int .i64 e, .int .i64 0]) ∧ w' = w))
    (P2 : Hid (∀ w, Calls Try.prog 27 #[.float .f64 y] w fun r w' => r = .returned (.tuple #[.bool z2, .int .u64 k, .int .i64 f, .int .i64 0]) ∧ w' = w))
    (O0 : Hid (Calls Try.prog 29 #[.pointer (some ⟨g, 0, none⟩), .bool true, .int .u64 0, .int .i64 (e + f)] ((w.setCell ⟨g, 136, none⟩ (.int .i64 (c + 1))).setCell ⟨g, 140, none⟩ (.bool false)) fun r w' => r = .returned (.tuple #[]) ∧ R1 w'))
    (O1 : Hid (∀ w, R1 w → Calls Try.prog 29 #[.pointer (some ⟨g, 0, none⟩), .bool true, .int .u64 0, .int .i64 (e + f + 32)] w fun r w' => r = .returned (.tuple #[]) ∧ R2 w'))
    (O2 : Hid (∀ w, R2 w → Calls Try.prog 29 #[.pointer (some ⟨g, 0, none⟩), .bool true, .int .u64 0, .int .i64 (e + f + 32)] w fun r w' => r = .returned (.tuple #[]) ∧ R3 w'))
    (O3 : Hid (∀ w, R3 w → Calls Try.prog 29 #[.pointer (some ⟨g, 0, none⟩), .bool true, .int .u64 0, .int .i64 (e + f + 32 + 32)] w fun r w' => r = .returned (.tuple #[]) ∧ Q w')) :
    Calls Try.prog 15 #[.pointer (some ⟨g, 0, none⟩), .float .f64 x, .float .f64 y] w fun e w' => e = .returned (.int .i64 0) ∧ Q w' := by
  go_enter Try.func15, Try.ntmps15
  go_wp2_with fail
  refine (P1.out _).mono ?_
  rintro e w1 ⟨rfl, rfl⟩
  go_wp2_with fail
  refine (P2.out _).mono ?_
  rintro e w2 ⟨rfl, rfl⟩
  go_wp2
  go_loopw [17] (fun iv wr => (iv = .int .i64 0 ∧ wr = (w.setCell ⟨g, 136, none⟩ (.int .i64 (c + 1))).setCell ⟨g, 140, none⟩ (.bool false)) ∨ (iv = .int .i64 1 ∧ R2 wr) ∨ (iv = .int .i64 2 ∧ Q wr)) (fun iv _ => 2 - (intOf iv).toNat)
  case atStart => exact .inl ⟨rfl, rfl⟩
  case round =>
    rcases hrel with ⟨rfl, rfl⟩ | ⟨rfl, hR⟩ | ⟨rfl, hR⟩
    · go_wp2
      go_loopw [18] (fun jv wr => (jv = .int .i64 0 ∧ wr = (w.setCell ⟨g, 136, none⟩ (.int .i64 (c + 1))).setCell ⟨g, 140, none⟩ (.bool false)) ∨ (jv = .int .i64 1 ∧ R1 wr) ∨ (jv = .int .i64 2 ∧ R2 wr)) (fun jv _ => 2 - (intOf jv).toNat)
      case atStart => exact .inl ⟨rfl, rfl⟩
      case round =>
        rcases hrel with ⟨rfl, rfl⟩ | ⟨rfl, hR⟩ | ⟨rfl, hR⟩
        · go_wp2_with fail
          refine O0.out.mono ?_
          rintro e w3 ⟨rfl, hR⟩
          go_wp2
          exact ⟨.inr (.inl ⟨rfl, hR⟩), by simp [intOf]⟩
        · go_wp2_with fail
          refine (O1.out _ hR).mono ?_
          rintro e w3 ⟨rfl, hR'⟩
          go_wp2
          exact ⟨.inr (.inr ⟨rfl, hR'⟩), by simp [intOf]⟩
        · go_wp2
          exact ⟨.inr (.inl ⟨rfl, hR⟩), by simp [intOf]⟩
    · go_wp2
      go_loopw [18] (fun jv wr => (jv = .int .i64 0 ∧ R2 wr) ∨ (jv = .int .i64 1 ∧ R3 wr) ∨ (jv = .int .i64 2 ∧ Q wr)) (fun jv _ => 2 - (intOf jv).toNat)
      case atStart => exact .inl ⟨rfl, hR⟩
      case round =>
        clear hR
        rcases hrel with ⟨rfl, hR⟩ | ⟨rfl, hR⟩ | ⟨rfl, hR⟩
        · go_wp2_with fail
          refine (O2.out _ hR).mono ?_
          rintro e w3 ⟨rfl, hR'⟩
          go_wp2
          exact ⟨.inr (.inl ⟨rfl, hR'⟩), by simp [intOf]⟩
        · go_wp2_with fail
          refine (O3.out _ hR).mono ?_
          rintro e w3 ⟨rfl, hR'⟩
          go_wp2
          exact ⟨.inr (.inr ⟨rfl, hR'⟩), by simp [intOf]⟩
        · go_wp2
          exact ⟨.inr (.inr ⟨rfl, hR⟩), by simp [intOf]⟩
    · go_wp2
      go_ret
      exact ⟨rfl, hR⟩
set_option maxHeartbeats 4000000 in
set_option maxRecDepth 100000 in
theorem rp_fin5 (g x y : Nat) (c : Int) (z1 z2 : Bool) (w : World) (Q : World → Prop) (h0 : w.cell? ⟨g, 136, none⟩ = some (.int .i64 c)) (f0 : w.frozen? ⟨g, 136, none⟩ = false) (c0 : 0 ≤ c) (c1 : c < 1048576) (hng : (!(z1 == z2)) = false) (e f m : Int) (R1 R2 R3 : World → Prop)
    (h1 : w.cell? ⟨g, 140, none⟩ = some (.bool false)) (f1 : w.frozen? ⟨g, 140, none⟩ = false) (mp : 0 < m) (_ml : 0 ≤ m) (mh : m < 9007199254740992) (_kl : 0 ≤ 0) (_kh : 0 < 9007199254740992)
    (el : -1074 ≤ e) (eh : e < 1000) (fl : -1074 ≤ f) (fh : f < 1000)
    (P1 : Hid (∀ w, Calls Try.prog 27 #[.float .f64 x] w fun r w' => r = .returned (.tuple #[.bool z1, .int .u64 m, .int .i64 e, .int .i64 0]) ∧ w' = w))
    (P2 : Hid (∀ w, Calls Try.prog 27 #[.float .f64 y] w fun r w' => r = .returned (.tuple #[.bool z2, .int .u64 0, .int .i64 f, .int .i64 0]) ∧ w' = w))
    (O0 : Hid (Calls Try.prog 29 #[.pointer (some ⟨g, 0, none⟩), .bool false, .int .u64 0, .int .i64 (e + f)] ((w.setCell ⟨g, 136, none⟩ (.int .i64 (c + 1))).setCell ⟨g, 140, none⟩ (.bool true)) fun r w' => r = .returned (.tuple #[]) ∧ R1 w'))
    (O1 : Hid (∀ w, R1 w → Calls Try.prog 29 #[.pointer (some ⟨g, 0, none⟩), .bool false, .int .u64 0, .int .i64 (e + f + 32)] w fun r w' => r = .returned (.tuple #[]) ∧ R2 w'))
    (O2 : Hid (∀ w, R2 w → Calls Try.prog 29 #[.pointer (some ⟨g, 0, none⟩), .bool false, .int .u64 0, .int .i64 (e + f + 32)] w fun r w' => r = .returned (.tuple #[]) ∧ R3 w'))
    (O3 : Hid (∀ w, R3 w → Calls Try.prog 29 #[.pointer (some ⟨g, 0, none⟩), .bool false, .int .u64 0, .int .i64 (e + f + 32 + 32)] w fun r w' => r = .returned (.tuple #[]) ∧ Q w')) :
    Calls Try.prog 15 #[.pointer (some ⟨g, 0, none⟩), .float .f64 x, .float .f64 y] w fun e w' => e = .returned (.int .i64 0) ∧ Q w' := by
  go_enter Try.func15, Try.ntmps15
  go_wp2_with fail
  refine (P1.out _).mono ?_
  rintro e w1 ⟨rfl, rfl⟩
  go_wp2_with fail
  refine (P2.out _).mono ?_
  rintro e w2 ⟨rfl, rfl⟩
  go_wp2
  go_loopw [17] (fun iv wr => (iv = .int .i64 0 ∧ wr = (w.setCell ⟨g, 136, none⟩ (.int .i64 (c + 1))).setCell ⟨g, 140, none⟩ (.bool true)) ∨ (iv = .int .i64 1 ∧ R2 wr) ∨ (iv = .int .i64 2 ∧ Q wr)) (fun iv _ => 2 - (intOf iv).toNat)
  case atStart => exact .inl ⟨rfl, rfl⟩
  case round =>
    rcases hrel with ⟨rfl, rfl⟩ | ⟨rfl, hR⟩ | ⟨rfl, hR⟩
    · go_wp2
      go_loopw [18] (fun jv wr => (jv = .int .i64 0 ∧ wr = (w.setCell ⟨g, 136, none⟩ (.int .i64 (c + 1))).setCell ⟨g, 140, none⟩ (.bool true)) ∨ (jv = .int .i64 1 ∧ R1 wr) ∨ (jv = .int .i64 2 ∧ R2 wr)) (fun jv _ => 2 - (intOf jv).toNat)
      case atStart => exact .inl ⟨rfl, rfl⟩
      case round =>
        rcases hrel with ⟨rfl, rfl⟩ | ⟨rfl, hR⟩ | ⟨rfl, hR⟩
        · go_wp2_with fail
          refine O0.out.mono ?_
          rintro e w3 ⟨rfl, hR⟩
          go_wp2
          exact ⟨.inr (.inl ⟨rfl, hR⟩), by simp [intOf]⟩
        · go_wp2_with fail
          refine (O1.out _ hR).mono ?_
          rintro e w3 ⟨rfl, hR'⟩
          go_wp2
          exact ⟨.inr (.inr ⟨rfl, hR'⟩), by simp [intOf]⟩
        · go_wp2
          exact ⟨.inr (.inl ⟨rfl, hR⟩), by simp [intOf]⟩
    · go_wp2
      go_loopw [18] (fun jv wr => (jv = .int .i64 0 ∧ R2 wr) ∨ (jv = .int .i64 1 ∧ R3 wr) ∨ (jv = .int .i64 2 ∧ Q wr)) (fun jv _ => 2 - (intOf jv).toNat)
      case atStart => exact .inl ⟨rfl, hR⟩
      case round =>
        clear hR
        rcases hrel with ⟨rfl, hR⟩ | ⟨rfl, hR⟩ | ⟨rfl, hR⟩
        · go_wp2_with fail
          refine (O2.out _ hR).mono ?_
          rintro e w3 ⟨rfl, hR'⟩
          go_wp2
          exact ⟨.inr (.inl ⟨rfl, hR'⟩), by simp [intOf]⟩
        · go_wp2_with fail
          refine (O3.out _ hR).mono ?_
          rintro e w3 ⟨rfl, hR'⟩
          go_wp2
          exact ⟨.inr (.inr ⟨rfl, hR'⟩), by simp [intOf]⟩
        · go_wp2
          exact ⟨.inr (.inr ⟨rfl, hR⟩), by simp [intOf]⟩
    · go_wp2
      go_ret
      exact ⟨rfl, hR⟩
set_option maxHeartbeats 4000000 in
set_option maxRecDepth 100000 in
theorem rp_fin6 (g x y : Nat) (c : Int) (z1 z2 : Bool) (w : World) (Q : World → Prop) (h0 : w.cell? ⟨g, 136, none⟩ = some (.int .i64 c)) (f0 : w.frozen? ⟨g, 136, none⟩ = false) (c0 : 0 ≤ c) (c1 : c < 1048576) (hng : (!(z1 == z2)) = true) (e f m : Int) (R1 R2 R3 : World → Prop)
    (h1 : w.cell? ⟨g, 140, none⟩ = some (.bool false)) (f1 : w.frozen? ⟨g, 140, none⟩ = false) (mp : 0 < m) (_ml : 0 ≤ m) (mh : m < 9007199254740992) (_kl : 0 ≤ 0) (_kh : 0 < 9007199254740992)
    (el : -1074 ≤ e) (eh : e < 1000) (fl : -1074 ≤ f) (fh : f < 1000)
    (P1 : Hid (∀ w, Calls Try.prog 27 #[.float .f64 x] w fun r w' => r = .returned (.tuple #[.bool z1, .int .u64 m, .int .i64 e, .int .i64 0]) ∧ w' = w))
    (P2 : Hid (∀ w, Calls Try.prog 27 #[.float .f64 y] w fun r w' => r = .returned (.tuple #[.bool z2, .int .u64 0, .int .i64 f, .int .i64 0]) ∧ w' = w))
    (O0 : Hid (Calls Try.prog 29 #[.pointer (some ⟨g, 0, none⟩), .bool true, .int .u64 0, .int .i64 (e + f)] ((w.setCell ⟨g, 136, none⟩ (.int .i64 (c + 1))).setCell ⟨g, 140, none⟩ (.bool false)) fun r w' => r = .returned (.tuple #[]) ∧ R1 w'))
    (O1 : Hid (∀ w, R1 w → Calls Try.prog 29 #[.pointer (some ⟨g, 0, none⟩), .bool true, .int .u64 0, .int .i64 (e + f + 32)] w fun r w' => r = .returned (.tuple #[]) ∧ R2 w'))
    (O2 : Hid (∀ w, R2 w → Calls Try.prog 29 #[.pointer (some ⟨g, 0, none⟩), .bool true, .int .u64 0, .int .i64 (e + f + 32)] w fun r w' => r = .returned (.tuple #[]) ∧ R3 w'))
    (O3 : Hid (∀ w, R3 w → Calls Try.prog 29 #[.pointer (some ⟨g, 0, none⟩), .bool true, .int .u64 0, .int .i64 (e + f + 32 + 32)] w fun r w' => r = .returned (.tuple #[]) ∧ Q w')) :
    Calls Try.prog 15 #[.pointer (some ⟨g, 0, none⟩), .float .f64 x, .float .f64 y] w fun e w' => e = .returned (.int .i64 0) ∧ Q w' := by
  go_enter Try.func15, Try.ntmps15
  go_wp2_with fail
  refine (P1.out _).mono ?_
  rintro e w1 ⟨rfl, rfl⟩
  go_wp2_with fail
  refine (P2.out _).mono ?_
  rintro e w2 ⟨rfl, rfl⟩
  go_wp2
  go_loopw [17] (fun iv wr => (iv = .int .i64 0 ∧ wr = (w.setCell ⟨g, 136, none⟩ (.int .i64 (c + 1))).setCell ⟨g, 140, none⟩ (.bool false)) ∨ (iv = .int .i64 1 ∧ R2 wr) ∨ (iv = .int .i64 2 ∧ Q wr)) (fun iv _ => 2 - (intOf iv).toNat)
  case atStart => exact .inl ⟨rfl, rfl⟩
  case round =>
    rcases hrel with ⟨rfl, rfl⟩ | ⟨rfl, hR⟩ | ⟨rfl, hR⟩
    · go_wp2
      go_loopw [18] (fun jv wr => (jv = .int .i64 0 ∧ wr = (w.setCell ⟨g, 136, none⟩ (.int .i64 (c + 1))).setCell ⟨g, 140, none⟩ (.bool false)) ∨ (jv = .int .i64 1 ∧ R1 wr) ∨ (jv = .int .i64 2 ∧ R2 wr)) (fun jv _ => 2 - (intOf jv).toNat)
      case atStart => exact .inl ⟨rfl, rfl⟩
      case round =>
        rcases hrel with ⟨rfl, rfl⟩ | ⟨rfl, hR⟩ | ⟨rfl, hR⟩
        · go_wp2_with fail
          refine O0.out.mono ?_
          rintro e w3 ⟨rfl, hR⟩
          go_wp2
          exact ⟨.inr (.inl ⟨rfl, hR⟩), by simp [intOf]⟩
        · go_wp2_with fail
          refine (O1.out _ hR).mono ?_
          rintro e w3 ⟨rfl, hR'⟩
          go_wp2
          exact ⟨.inr (.inr ⟨rfl, hR'⟩), by simp [intOf]⟩
        · go_wp2
          exact ⟨.inr (.inl ⟨rfl, hR⟩), by simp [intOf]⟩
    · go_wp2
      go_loopw [18] (fun jv wr => (jv = .int .i64 0 ∧ R2 wr) ∨ (jv = .int .i64 1 ∧ R3 wr) ∨ (jv = .int .i64 2 ∧ Q wr)) (fun jv _ => 2 - (intOf jv).toNat)
      case atStart => exact .inl ⟨rfl, hR⟩
      case round =>
        clear hR
        rcases hrel with ⟨rfl, hR⟩ | ⟨rfl, hR⟩ | ⟨rfl, hR⟩
        · go_wp2_with fail
          refine (O2.out _ hR).mono ?_
          rintro e w3 ⟨rfl, hR'⟩
          go_wp2
          exact ⟨.inr (.inl ⟨rfl, hR'⟩), by simp [intOf]⟩
        · go_wp2_with fail
          refine (O3.out _ hR).mono ?_
          rintro e w3 ⟨rfl, hR'⟩
          go_wp2
          exact ⟨.inr (.inr ⟨rfl, hR'⟩), by simp [intOf]⟩
        · go_wp2
          exact ⟨.inr (.inr ⟨rfl, hR⟩), by simp [intOf]⟩
    · go_wp2
      go_ret
      exact ⟨rfl, hR⟩
end Go.Proofs.Ytgbnabpbheebjaa
namespace Go.Proofs.Ytgbnabpbheebjaa
open Go.RowKit Tf

theorem p32 : (2 : Nat) ^ 32 = 4294967296 := by decide
def PUT (g : Nat) (neg : Bool) (p : Nat) (e : Int) (W : World) (R : World → Prop) : Prop :=
  Calls Try.prog 29 #[.pointer (some ⟨g, 0, none⟩), .bool neg, .int .u64 (p : Int), .int .i64 e] W fun r w' => r = .returned (.tuple #[]) ∧ R w'
def ST (g : Nat) (f : Nat → Int) (c : Int) (p q r o neg : Bool) (B : Int) (w : World) (T : Nat) (n : Int) : World → Prop := fun w' =>
  ∃ f', IsR g f' c p q r o w' ∧ Only g w w' ∧ valN f' 136 = valN f 136 + (if neg then -1 else 1) * (T : Int) ∧ Lim f' (B + n * 8589934592)
theorem put_st (g : Nat) (f : Nat → Int) (c : Int) (p q r o neg : Bool) (B : Int) (w W : World) (T m : Nat) (n : Int) (e : Int) (h : ST g f c p q r o neg B w T n W) (hB : B + n * 8589934592 + 8589934592 ≤ 72057594037927936) (hm : m < 18446744073709551616) (e0 : -2176 ≤ e) (e1 : e < 2080) :
    PUT g neg m e W (ST g f c p q r o neg B w (T + m * 2 ^ (e + 2176).toNat) (n + 1)) := by
  obtain ⟨f', h1, h2, h3, h4⟩ := h
  refine (put_at g f' c p q r o neg m e (B + n * 8589934592) W h1 h4 (by omega) hm e0 e1).mono ?_
  rintro x w' ⟨hx, f2, k1, k2, k3, k4⟩
  refine ⟨hx, f2, k1.out, h2.trans k2.out, ?_, ?_⟩
  · rw [k3.out, h3, Int.natCast_add, Int.mul_add, Int.add_assoc]
  · have e2 : B + (n + 1) * 8589934592 = B + n * 8589934592 + 8589934592 := by omega
    rw [e2]; exact k4.out
theorem mul_parts (a b : Nat) : a * b = a % 4294967296 * (b % 4294967296) + (a % 4294967296 * (b / 4294967296) + a / 4294967296 * (b % 4294967296)) * 4294967296 + a / 4294967296 * (b / 4294967296) * 18446744073709551616 := by
  have ha : a = a % 4294967296 + a / 4294967296 * 4294967296 := by omega
  have hb : b = b % 4294967296 + b / 4294967296 * 4294967296 := by omega
  generalize a % 4294967296 = a0 at *
  generalize a / 4294967296 = a1 at *
  generalize b % 4294967296 = b0 at *
  generalize b / 4294967296 = b1 at *
  subst ha hb
  rw [Nat.add_mul, Nat.mul_add, Nat.mul_add]
  have e1 : a0 * (b1 * 4294967296) = a0 * b1 * 4294967296 := by rw [Nat.mul_assoc]
  have e2 : a1 * 4294967296 * b0 = a1 * b0 * 4294967296 := by rw [Nat.mul_right_comm]
  have e3 : a1 * 4294967296 * (b1 * 4294967296) = a1 * b1 * 18446744073709551616 := by
    rw [Nat.mul_assoc, Nat.mul_comm 4294967296 (b1 * 4294967296), Nat.mul_assoc b1, ← Nat.mul_assoc]
  rw [e1, e2, e3]
  generalize a0 * b0 = x at *
  generalize a0 * b1 = y at *
  generalize a1 * b0 = u at *
  generalize a1 * b1 = v at *
  omega
theorem four_sum (a b E : Nat) : 0 + a % 4294967296 * (b % 4294967296) * 2 ^ E + a % 4294967296 * (b / 4294967296) * 2 ^ (E + 32) + a / 4294967296 * (b % 4294967296) * 2 ^ (E + 32) + a / 4294967296 * (b / 4294967296) * 2 ^ (E + 64) = a * b * 2 ^ E := by
  have h := mul_parts a b
  have e1 : (2 : Nat) ^ (E + 32) = 4294967296 * 2 ^ E := by rw [Nat.pow_add, p32, Nat.mul_comm]
  have e2 : (2 : Nat) ^ (E + 64) = 18446744073709551616 * 2 ^ E := by rw [Nat.pow_add, show (2 : Nat) ^ 64 = 18446744073709551616 by decide, Nat.mul_comm]
  rw [e1, e2, h, Nat.add_mul, Nat.add_mul, Nat.add_mul, Nat.add_mul, Nat.zero_add]
  simp only [Nat.mul_assoc]
  generalize a % 4294967296 * (b % 4294967296 * 2 ^ E) = x
  generalize a / 4294967296 * (b / 4294967296 * (18446744073709551616 * 2 ^ E)) = v
  omega
theorem kinds (x : Nat) : (mg x = 0 ∧ isN x = false ∧ infB x = false ∧ zeroB x = true) ∨ (0 < mg x ∧ mg x < 9218868437227405312 ∧ isN x = false ∧ infB x = false ∧ zeroB x = false) ∨ (mg x = 9218868437227405312 ∧ isN x = false ∧ infB x = true ∧ zeroB x = false) ∨ (isN x = true ∧ infB x = false ∧ zeroB x = false) := by
  unfold infB zeroB
  rcases Nat.lt_trichotomy (mg x) 9218868437227405312 with h | h | h
  · have hN : isN x = false := isN_false.2 (by omega)
    by_cases c : mg x = 0
    · exact .inl ⟨c, hN, decide_eq_false (by omega), decide_eq_true c⟩
    · exact .inr (.inl ⟨by omega, h, hN, decide_eq_false (by omega), decide_eq_false c⟩)
  · exact .inr (.inr (.inl ⟨h, isN_false.2 (by omega), decide_eq_true h, decide_eq_false (by omega)⟩))
  · exact .inr (.inr (.inr ⟨isN_true.2 h, decide_eq_false (by omega), decide_eq_false (by omega)⟩))
/-- ONE PRODUCT MORE -/
theorem pow_parts (a b u v : Nat) : a * b * 2 ^ (u + v + 28) = a * 2 ^ u * (b * 2 ^ v) * 268435456 := by
  rw [Nat.pow_add, Nat.pow_add, pow28]
  generalize 2 ^ u = A
  generalize 2 ^ v = B
  generalize 268435456 = C
  ac_rfl
theorem wm_zero {m : Nat} (h : m = 0) : wm m = 0 := by subst h; decide
theorem wm_pos {m : Nat} (h : 0 < m) : 0 < wm m := by unfold wm; split <;> omega
theorem stepP_fin (S : AS) (x y : Nat) (a1 : isN x = false) (a2 : infB x = false) (b1 : isN y = false) (b2 : infB y = false) :
    stepP S x y = ⟨S.c + 1, S.n + (if (zeroB x || zeroB y) && (!(ng x == ng y)) then 1 else 0), S.V + sv x * sv y, S.p, S.q, S.r⟩ := by
  unfold stepP
  rw [a1, a2, b1, b2]
  simp only [Bool.false_and, Bool.and_false, Bool.or_self, Bool.false_eq_true, if_false]
  have hz : zeroB x = true ∨ zeroB y = true → sv x * sv y = 0 := by
    rintro (h | h)
    · have : mg x = 0 := by unfold zeroB at h; simpa using h
      rw [zero_sv x this, Int.zero_mul]
    · have : mg y = 0 := by unfold zeroB at h; simpa using h
      rw [zero_sv y this, Int.mul_zero]
  cases hx : zeroB x
  · cases hy : zeroB y
    · simp
    · rw [hz (.inr hy)]
      cases ng x <;> cases ng y <;> simp
  · rw [hz (.inl hx)]
    cases ng x <;> cases ng y <;> simp
theorem rprod_at (g x y : Nat) (S : AS) (w : World) (hx : x < 18446744073709551616) (hy : y < 18446744073709551616) (h : IsRef g S w) (hS : Good S) (c1 : S.c < 1048576) :
    Calls Try.prog 15 #[.pointer (some ⟨g, 0, none⟩), .float .f64 x, .float .f64 y] w fun e w' => e = .returned (.int .i64 0) ∧ (Hid (IsRef g (stepP S x y) w') ∧ Hid (Only g w w')) := by
  obtain ⟨f, hR, hv, hl⟩ := h
  have c0 := hS.c0
  have hn1 := hS.n1
  have hR1 := hR.sc (S.c + 1)
  have o1 : Only g w (w.setCell ⟨g, 136, none⟩ (.int .i64 (S.c + 1))) := only_set _ _ _ _
  have hlim : Lim f ((S.c + 1) * 34359738368) := hl.more (by omega)
  have odd : ∀ none : Bool, (stepP S x y = if none then { S with c := S.c + 1, r := true } else if (!(ng x == ng y)) then { S with c := S.c + 1, q := true } else { S with c := S.c + 1, p := true }) →
      Calls Try.prog 28 #[.pointer (some ⟨g, 0, .none⟩), .bool (!(ng x == ng y)), .bool none] (w.setCell ⟨g, 136, .none⟩ (.int .i64 (S.c + 1))) fun r w' => r = .returned (.tuple #[]) ∧ (Hid (IsRef g (stepP S x y) w') ∧ Hid (Only g w w')) := by
    intro none hst
    refine (odd_at g f (S.c + 1) S.p S.q S.r _ (!(ng x == ng y)) none _ hR1).mono ?_
    rintro r w' ⟨e1, e2, e3⟩
    refine ⟨e1, ?_, o1.trans e3.out⟩
    have e2' := e2.out
    rw [hst]
    generalize (!(ng x == ng y)) = neg at *
    cases none
    · cases neg
      · simp only [Bool.not_false, Bool.and_self, Bool.or_true, Bool.and_false, Bool.or_false] at e2'
        refine ⟨f, ?_, hv, hlim⟩
        simp only [Bool.false_eq_true, if_false]
        rw [decide_eq_true (by omega : S.n ≠ S.c + 1)]
        exact e2'
      · simp only [Bool.not_false, Bool.not_true, Bool.and_self, Bool.or_true, Bool.and_false, Bool.or_false] at e2'
        refine ⟨f, ?_, hv, hlim⟩
        simp only [Bool.false_eq_true, if_false, if_true]
        rw [decide_eq_true (by omega : S.n ≠ S.c + 1)]
        exact e2'
    · simp only [Bool.not_true, Bool.false_and, Bool.or_false, Bool.or_true] at e2'
      refine ⟨f, ?_, hv, hlim⟩
      simp only [if_true]
      rw [decide_eq_true (by omega : S.n ≠ S.c + 1)]
      exact e2'
  have fin : mg x < 9218868437227405312 → mg y < 9218868437227405312 → isN x = false → infB x = false → isN y = false → infB y = false → ∀ W : World, IsR g f (S.c + 1) S.p S.q S.r (decide (S.n + (if (zeroB x || zeroB y) && (!(ng x == ng y)) then 1 else 0) ≠ S.c + 1)) W → Only g w W →
      ST g f (S.c + 1) S.p S.q S.r (decide (S.n + (if (zeroB x || zeroB y) && (!(ng x == ng y)) then 1 else 0) ≠ S.c + 1)) (!(ng x == ng y)) (S.c * 34359738368) w 0 0 W := by
    intro _ _ _ _ _ _ W hW hO
    exact ⟨f, hW, hO, by simp, hl.more (by omega)⟩
  have done : mg x < 9218868437227405312 → mg y < 9218868437227405312 → isN x = false → infB x = false → isN y = false → infB y = false → ∀ w', ST g f (S.c + 1) S.p S.q S.r (decide (S.n + (if (zeroB x || zeroB y) && (!(ng x == ng y)) then 1 else 0) ≠ S.c + 1)) (!(ng x == ng y)) (S.c * 34359738368) w (wm (mg x) * wm (mg y) * 2 ^ (wk (mg x) + wk (mg y) + 28)) 4 w' →
      (Hid (IsRef g (stepP S x y) w') ∧ Hid (Only g w w')) := by
    intro fx fy a1 a2 b1 b2 w' ⟨f', k1, k2, k3, k4⟩
    refine ⟨?_, k2⟩
    rw [stepP_fin S x y a1 a2 b1 b2]
    refine ⟨f', k1, ?_, ?_⟩
    · rw [k3, hv, sv_wm x, sv_wm y]
      show _ = (S.V + _) * 268435456
      have hp := pow_parts (wm (mg x)) (wm (mg y)) (wk (mg x)) (wk (mg y))
      rw [hp, Int.natCast_mul, Int.natCast_mul]
      generalize ((wm (mg x) * 2 ^ wk (mg x) : Nat) : Int) = A
      generalize ((wm (mg y) * 2 ^ wk (mg y) : Nat) : Int) = D
      show _ = (S.V + _) * 268435456
      rw [Int.add_mul, show ((268435456 : Nat) : Int) = 268435456 from rfl]
      cases ng x <;> cases ng y
      · simp
      · simp [Int.neg_mul, Int.mul_neg]
      · simp [Int.neg_mul]
      · simp [Int.neg_mul, Int.mul_neg]
    · show Lim f' ((S.c + 1) * 34359738368)
      exact k4.more (by omega)
  have rfinite : mg x < 9218868437227405312 → mg y < 9218868437227405312 → isN x = false → infB x = false → isN y = false → infB y = false → (zeroB x = decide (wm (mg x) = 0)) → (zeroB y = decide (wm (mg y) = 0)) →
      Calls Try.prog 15 #[.pointer (some ⟨g, 0, none⟩), .float .f64 x, .float .f64 y] w fun e w' => e = .returned (.int .i64 0) ∧ (Hid (IsRef g (stepP S x y) w') ∧ Hid (Only g w w')) := by
    intro fx fy a1 a2 b1 b2 hzx hzy
    have kx := wk_top _ fx
    have ky := wk_top _ fy
    have mx := wm_lt (mg x)
    have my := wm_lt (mg y)
    have P1 := hid (fun w => rparts_fin x w hx fx)
    have P2 := hid (fun w => rparts_fin y w hy fy)
    have E0 : ((((wk (mg x) : Nat) : Int) - 1074) + (((wk (mg y) : Nat) : Int) - 1074) + 2176).toNat = wk (mg x) + wk (mg y) + 28 := by omega
    have E1 : ((((wk (mg x) : Nat) : Int) - 1074) + (((wk (mg y) : Nat) : Int) - 1074) + 32 + 2176).toNat = wk (mg x) + wk (mg y) + 28 + 32 := by omega
    have E2 : ((((wk (mg x) : Nat) : Int) - 1074) + (((wk (mg y) : Nat) : Int) - 1074) + 32 + 32 + 2176).toNat = wk (mg x) + wk (mg y) + 28 + 64 := by omega
    have chain : ∀ (p00 p01 p10 p11 : Nat) (o : Bool) (W : World), p00 < 18446744073709551616 → p01 < 18446744073709551616 → p10 < 18446744073709551616 → p11 < 18446744073709551616 →
        0 + p00 * 2 ^ (wk (mg x) + wk (mg y) + 28) + p01 * 2 ^ (wk (mg x) + wk (mg y) + 28 + 32) + p10 * 2 ^ (wk (mg x) + wk (mg y) + 28 + 32) + p11 * 2 ^ (wk (mg x) + wk (mg y) + 28 + 64) = wm (mg x) * wm (mg y) * 2 ^ (wk (mg x) + wk (mg y) + 28) →
        decide (S.n + (if (zeroB x || zeroB y) && (!(ng x == ng y)) then 1 else 0) ≠ S.c + 1) = o → IsR g f (S.c + 1) S.p S.q S.r o W → Only g w W →
        ∃ R1 R2 R3 : World → Prop, PUT g (!(ng x == ng y)) p00 ((((wk (mg x) : Nat) : Int) - 1074) + (((wk (mg y) : Nat) : Int) - 1074)) W R1 ∧ (∀ W, R1 W → PUT g (!(ng x == ng y)) p01 ((((wk (mg x) : Nat) : Int) - 1074) + (((wk (mg y) : Nat) : Int) - 1074) + 32) W R2) ∧ (∀ W, R2 W → PUT g (!(ng x == ng y)) p10 ((((wk (mg x) : Nat) : Int) - 1074) + (((wk (mg y) : Nat) : Int) - 1074) + 32) W R3) ∧ (∀ W, R3 W → PUT g (!(ng x == ng y)) p11 ((((wk (mg x) : Nat) : Int) - 1074) + (((wk (mg y) : Nat) : Int) - 1074) + 32 + 32) W (fun w' => Hid (IsRef g (stepP S x y) w') ∧ Hid (Only g w w'))) := by
      intro p00 p01 p10 p11 o W h00 h01 h10 h11 hT ho hW hO
      subst ho
      have s0 := fin fx fy a1 a2 b1 b2 W hW hO
      refine ⟨_, _, _, put_st _ _ _ _ _ _ _ _ _ _ _ _ p00 _ _ s0 (by omega) h00 (by omega) (by omega), fun W1 s1 => put_st _ _ _ _ _ _ _ _ _ _ _ _ p01 _ _ s1 (by omega) h01 (by omega) (by omega), fun W2 s2 => put_st _ _ _ _ _ _ _ _ _ _ _ _ p10 _ _ s2 (by omega) h10 (by omega) (by omega), fun W3 s3 => ?_⟩
      refine Calls.mono (put_st _ _ _ _ _ _ _ _ _ _ _ _ p11 _ _ s3 (by omega) h11 (by omega) (by omega)) ?_
      rintro r w' ⟨hr, hs⟩
      rw [E0, E1, E2, hT] at hs
      exact ⟨hr, done fx fy a1 a2 b1 b2 w' hs⟩
    have q0 : wm (mg x) % 4294967296 < 4294967296 := Nat.mod_lt _ (by decide)
    have q1 : wm (mg x) / 4294967296 < 4294967296 := by omega
    have q2 : wm (mg y) % 4294967296 < 4294967296 := Nat.mod_lt _ (by decide)
    have q3 : wm (mg y) / 4294967296 < 4294967296 := by omega
    have lt : ∀ a b : Nat, a < 4294967296 → b < 4294967296 → a * b < 18446744073709551616 := by
      intro a b ha hb
      have : a * b ≤ 4294967295 * 4294967295 := Nat.mul_le_mul (by omega) (by omega)
      omega
    have M0 : ((wm (mg x) : Nat) : Int) % 4294967296 = ((wm (mg x) % 4294967296 : Nat) : Int) := by omega
    have M1 : ((wm (mg x) : Nat) : Int) / 4294967296 % 4294967296 = ((wm (mg x) / 4294967296 : Nat) : Int) := by omega
    have K0 : ((wm (mg y) : Nat) : Int) % 4294967296 = ((wm (mg y) % 4294967296 : Nat) : Int) := by omega
    have K1 : ((wm (mg y) : Nat) : Int) / 4294967296 % 4294967296 = ((wm (mg y) / 4294967296 : Nat) : Int) := by omega
    have PP0 := (Int.natCast_mul (wm (mg x) % 4294967296) (wm (mg y) % 4294967296)).symm
    have PP1 := (Int.natCast_mul (wm (mg x) % 4294967296) (wm (mg y) / 4294967296)).symm
    have PP2 := (Int.natCast_mul (wm (mg x) / 4294967296) (wm (mg y) % 4294967296)).symm
    have PP3 := (Int.natCast_mul (wm (mg x) / 4294967296) (wm (mg y) / 4294967296)).symm
    have hT := four_sum (wm (mg x)) (wm (mg y)) (wk (mg x) + wk (mg y) + 28)
    by_cases hnc : S.n ≠ S.c
    · have hb : decide (S.n ≠ S.c) = true := decide_eq_true hnc
      have hco := hR.co
      rw [hb] at hco
      obtain ⟨R1, R2, R3, O0, O1, O2, O3⟩ := chain _ _ _ _ true _ (lt _ _ q0 q2) (lt _ _ q0 q3) (lt _ _ q1 q2) (lt _ _ q1 q3) hT (decide_eq_true (by split <;> omega)) (by rw [hb] at hR1; exact hR1.so true) (o1.trans (only_set _ _ _ _))
      exact rp_fin1 g x y S.c (ng x) (ng y) _ w _ hR.cc (hR.fr _) c0 c1 rfl _ _ _ _ _ _ _ _ _ _ _ _ R1 R2 R3 hco (hR.fr _) (by omega) (by omega) (by omega) (by omega) (by omega) (by omega) (by omega) (by omega) M0 M1 K0 K1 PP0 PP1 PP2 PP3 (Int.natCast_nonneg _) (Int.ofNat_lt.2 (lt _ _ q0 q2)) (Int.natCast_nonneg _) (Int.ofNat_lt.2 (lt _ _ q0 q3)) (Int.natCast_nonneg _) (Int.ofNat_lt.2 (lt _ _ q1 q2)) (Int.natCast_nonneg _) (Int.ofNat_lt.2 (lt _ _ q1 q3)) P1 P2 O0 O1 O2 O3
    · have hb : decide (S.n ≠ S.c) = false := decide_eq_false hnc
      have hco := hR.co
      rw [hb] at hco
      by_cases hwx : wm (mg x) = 0
      · have hz : (zeroB x || zeroB y) = true := by rw [hzx, hwx]; rfl
        rw [hwx] at P1
        cases hneg : (!(ng x == ng y))
        · obtain ⟨R1, R2, R3, O0, O1, O2, O3⟩ := chain 0 0 0 0 true _ (by decide) (by decide) (by decide) (by decide) (by rw [hwx]; simp) (decide_eq_true (by rw [hneg, hz]; simp; omega)) (by rw [hb] at hR1; exact hR1.so true) (o1.trans (only_set _ _ _ _))
          rw [hneg] at O0 O1 O2 O3
          exact rp_fin3 g x y S.c (ng x) (ng y) w _ hR.cc (hR.fr _) c0 c1 hneg _ _ _ R1 R2 R3 hco (hR.fr _) (by decide) (by decide) (by omega) (by omega) (by omega) (by omega) (by omega) (by omega) P1 P2 O0 O1 O2 O3
        · obtain ⟨R1, R2, R3, O0, O1, O2, O3⟩ := chain 0 0 0 0 false _ (by decide) (by decide) (by decide) (by decide) (by rw [hwx]; simp) (decide_eq_false (by rw [hneg, hz]; simp; omega)) (by rw [hb] at hR1; exact hR1.so false) (o1.trans (only_set _ _ _ _))
          rw [hneg] at O0 O1 O2 O3
          exact rp_fin4 g x y S.c (ng x) (ng y) w _ hR.cc (hR.fr _) c0 c1 hneg _ _ _ R1 R2 R3 hco (hR.fr _) (by decide) (by decide) (by omega) (by omega) (by omega) (by omega) (by omega) (by omega) P1 P2 O0 O1 O2 O3
      · by_cases hwy : wm (mg y) = 0
        · have hz : (zeroB x || zeroB y) = true := by rw [hzy, hwy]; simp
          rw [hwy] at P2
          cases hneg : (!(ng x == ng y))
          · obtain ⟨R1, R2, R3, O0, O1, O2, O3⟩ := chain 0 0 0 0 true _ (by decide) (by decide) (by decide) (by decide) (by rw [hwy]; simp) (decide_eq_true (by rw [hneg, hz]; simp; omega)) (by rw [hb] at hR1; exact hR1.so true) (o1.trans (only_set _ _ _ _))
            rw [hneg] at O0 O1 O2 O3
            exact rp_fin5 g x y S.c (ng x) (ng y) w _ hR.cc (hR.fr _) c0 c1 hneg _ _ _ R1 R2 R3 hco (hR.fr _) (by omega) (by omega) (by omega) (by decide) (by decide) (by omega) (by omega) (by omega) (by omega) P1 P2 O0 O1 O2 O3
          · obtain ⟨R1, R2, R3, O0, O1, O2, O3⟩ := chain 0 0 0 0 false _ (by decide) (by decide) (by decide) (by decide) (by rw [hwy]; simp) (decide_eq_false (by rw [hneg, hz]; simp; omega)) (by rw [hb] at hR1; exact hR1.so false) (o1.trans (only_set _ _ _ _))
            rw [hneg] at O0 O1 O2 O3
            exact rp_fin6 g x y S.c (ng x) (ng y) w _ hR.cc (hR.fr _) c0 c1 hneg _ _ _ R1 R2 R3 hco (hR.fr _) (by omega) (by omega) (by omega) (by decide) (by decide) (by omega) (by omega) (by omega) (by omega) P1 P2 O0 O1 O2 O3
        · have hz : (zeroB x || zeroB y) = false := by rw [hzx, hzy, decide_eq_false hwx, decide_eq_false hwy]; rfl
          obtain ⟨R1, R2, R3, O0, O1, O2, O3⟩ := chain _ _ _ _ true _ (lt _ _ q0 q2) (lt _ _ q0 q3) (lt _ _ q1 q2) (lt _ _ q1 q3) hT (decide_eq_true (by rw [hz]; simp; omega)) (by rw [hb] at hR1; exact hR1.so true) (o1.trans (only_set _ _ _ _))
          exact rp_fin2 g x y S.c (ng x) (ng y) _ w _ hR.cc (hR.fr _) c0 c1 rfl _ _ _ _ _ _ _ _ _ _ _ _ R1 R2 R3 hco (hR.fr _) (by omega) (by omega) (by omega) (by omega) (by omega) (by omega) (by omega) (by omega) (by omega) (by omega) M0 M1 K0 K1 PP0 PP1 PP2 PP3 (Int.natCast_nonneg _) (Int.ofNat_lt.2 (lt _ _ q0 q2)) (Int.natCast_nonneg _) (Int.ofNat_lt.2 (lt _ _ q0 q3)) (Int.natCast_nonneg _) (Int.ofNat_lt.2 (lt _ _ q1 q2)) (Int.natCast_nonneg _) (Int.ofNat_lt.2 (lt _ _ q1 q3)) P1 P2 O0 O1 O2 O3
  rcases kinds x with ⟨mzx, nx, ix, qx⟩ | ⟨mpx, mfx, nx, ix, qx⟩ | ⟨mix, nx, ix, qx⟩ | ⟨nx, ix, qx⟩
  · rcases kinds y with ⟨mzy, ny, iy, qy⟩ | ⟨mpy, mfy, ny, iy, qy⟩ | ⟨miy, ny, iy, qy⟩ | ⟨ny, iy, qy⟩
    · exact rfinite (by omega) (by omega) nx ix ny iy (by rw [qx, wm_zero mzx]; rfl) (by rw [qy, wm_zero mzy]; rfl)
    · exact rfinite (by omega) mfy nx ix ny iy (by rw [qx, wm_zero mzx]; rfl) (by rw [qy]; exact (decide_eq_false (by have := wm_pos mpy; omega)).symm)
    · refine rp_zi g x y S.c (ng x) (ng y) _ w _ hR.cc (hR.fr _) c0 c1 rfl _ (fun w => by have := rparts_fin x w hx (by omega); rw [wm_zero mzx] at this; exact this) (fun w => rparts_inf y w hy miy) (odd true ?_)
      unfold stepP
      rw [nx, ny, ix, iy, qx, qy]
      rfl
    · refine rp_zn g x y S.c (ng x) (ng y) _ w _ hR.cc (hR.fr _) c0 c1 rfl _ (fun w => by have := rparts_fin x w hx (by omega); rw [wm_zero mzx] at this; exact this) (fun w => rparts_nan y w hy ny) (odd true ?_)
      unfold stepP
      rw [nx, ny, ix, iy, qx, qy]
      rfl
  · rcases kinds y with ⟨mzy, ny, iy, qy⟩ | ⟨mpy, mfy, ny, iy, qy⟩ | ⟨miy, ny, iy, qy⟩ | ⟨ny, iy, qy⟩
    · exact rfinite mfx (by omega) nx ix ny iy (by rw [qx]; exact (decide_eq_false (by have := wm_pos mpx; omega)).symm) (by rw [qy, wm_zero mzy]; rfl)
    · exact rfinite mfx mfy nx ix ny iy (by rw [qx]; exact (decide_eq_false (by have := wm_pos mpx; omega)).symm) (by rw [qy]; exact (decide_eq_false (by have := wm_pos mpy; omega)).symm)
    · refine rp_fi g x y S.c (ng x) (ng y) _ w _ hR.cc (hR.fr _) c0 c1 rfl _ _ (by rw [beq_eq_false_iff_ne]; have := wm_pos mpx; omega) (fun w => rparts_fin x w hx mfx) (fun w => rparts_inf y w hy miy) (odd false ?_)
      unfold stepP
      rw [nx, ny, ix, iy, qx, qy]
      rfl
    · refine rp_fn g x y S.c (ng x) (ng y) _ w _ hR.cc (hR.fr _) c0 c1 rfl _ _ (by rw [beq_eq_false_iff_ne]; have := wm_pos mpx; omega) (fun w => rparts_fin x w hx mfx) (fun w => rparts_nan y w hy ny) (odd true ?_)
      unfold stepP
      rw [nx, ny, ix, iy, qx, qy]
      rfl
  · rcases kinds y with ⟨mzy, ny, iy, qy⟩ | ⟨mpy, mfy, ny, iy, qy⟩ | ⟨miy, ny, iy, qy⟩ | ⟨ny, iy, qy⟩
    · refine rp_iz g x y S.c (ng x) (ng y) _ w _ hR.cc (hR.fr _) c0 c1 rfl _ (fun w => rparts_inf x w hx mix) (fun w => by have := rparts_fin y w hy (by omega); rw [wm_zero mzy] at this; exact this) (odd true ?_)
      unfold stepP
      rw [nx, ny, ix, iy, qx, qy]
      rfl
    · refine rp_if g x y S.c (ng x) (ng y) _ w _ hR.cc (hR.fr _) c0 c1 rfl _ _ (by rw [beq_eq_false_iff_ne]; have := wm_pos mpy; omega) (fun w => rparts_inf x w hx mix) (fun w => rparts_fin y w hy mfy) (odd false ?_)
      unfold stepP
      rw [nx, ny, ix, iy, qx, qy]
      rfl
    · refine rp_ii g x y S.c (ng x) (ng y) _ w _ hR.cc (hR.fr _) c0 c1 rfl (fun w => rparts_inf x w hx mix) (fun w => rparts_inf y w hy miy) (odd false ?_)
      unfold stepP
      rw [nx, ny, ix, iy, qx, qy]
      rfl
    · refine rp_in g x y S.c (ng x) (ng y) _ w _ hR.cc (hR.fr _) c0 c1 rfl (fun w => rparts_inf x w hx mix) (fun w => rparts_nan y w hy ny) (odd true ?_)
      unfold stepP
      rw [nx, ny, ix, iy, qx, qy]
      rfl
  · rcases kinds y with ⟨mzy, ny, iy, qy⟩ | ⟨mpy, mfy, ny, iy, qy⟩ | ⟨miy, ny, iy, qy⟩ | ⟨ny, iy, qy⟩
    · refine rp_nz g x y S.c (ng x) (ng y) _ w _ hR.cc (hR.fr _) c0 c1 rfl _ (fun w => rparts_nan x w hx nx) (fun w => by have := rparts_fin y w hy (by omega); rw [wm_zero mzy] at this; exact this) (odd true ?_)
      unfold stepP
      rw [nx, ny, ix, iy, qx, qy]
      rfl
    · refine rp_nf g x y S.c (ng x) (ng y) _ w _ hR.cc (hR.fr _) c0 c1 rfl _ _ (by rw [beq_eq_false_iff_ne]; have := wm_pos mpy; omega) (fun w => rparts_nan x w hx nx) (fun w => rparts_fin y w hy mfy) (odd true ?_)
      unfold stepP
      rw [nx, ny, ix, iy, qx, qy]
      rfl
    · refine rp_ni g x y S.c (ng x) (ng y) _ w _ hR.cc (hR.fr _) c0 c1 rfl (fun w => rparts_nan x w hx nx) (fun w => rparts_inf y w hy miy) (odd true ?_)
      unfold stepP
      rw [nx, ny, ix, iy, qx, qy]
      rfl
    · refine rp_nn g x y S.c (ng x) (ng y) _ w _ hR.cc (hR.fr _) c0 c1 rfl (fun w => rparts_nan x w hx nx) (fun w => rparts_nan y w hy ny) (odd true ?_)
      unfold stepP
      rw [nx, ny, ix, iy, qx, qy]
      rfl
end Go.Proofs.Ytgbnabpbheebjaa
