/-
  The reference: New, Add, AddProduct, Count: walks over the program.
-/
import Derived.Test.YtgbnabpbheebjaaRb
namespace Go.Proofs.Ytgbnabpbheebjaa
open Go.RowKit Tf
attribute [local go_sem] run_bits run_from raw_feq raw_fne raw_flt raw_fgt run_neg

/-- the reference's block of a sum -/
def IsRef (g : Nat) (S : AS) (w : World) : Prop := ∃ f, IsR g f S.c S.p S.q S.r (decide (S.n ≠ S.c)) w ∧ valN f 136 = S.V * 268435456 ∧ Lim f (S.c * 34359738368)
theorem Lim.more {f : Nat → Int} {B B' : Int} (h : Lim f B) (hB : B ≤ B') : Lim f B' := fun i => by have := h i; omega

theorem built_ref : Try.prog.built 59 [] = some (encR (fun _ => 0) 0 false false false false) := by
  kernel_rfl
set_option maxHeartbeats 2000000 in
theorem rnew_go (w : World) : Calls Try.prog 11 #[] w fun e w' => e = .returned (.pointer (some ⟨w.heap.size, 0, none⟩)) ∧ w' = w.alloc (.cells (encR (fun _ => 0) 0 false false false false) 59) := by
  go_enter Try.func11, Try.ntmps11
  go_upto_region 1 with fail
  rename_i K hK
  apply wp_region_lit
  refine wpList_build0 rfl 59 rfl (encR (fun _ => 0) 0 false false false false) built_ref ?_
  refine wpList_box rfl 59 _ rfl (encR (fun _ => 0) 0 false false false false) rfl ?_
  go_wp2
  go_ret
  exact ⟨rfl, rfl⟩
theorem valN_zero (n : Nat) : valN (fun _ => 0) n = 0 := by
  induction n with
  | zero => rfl
  | succ n ih => show valN _ n + 0 * _ = 0; rw [ih]; simp
theorem ref0 (w : World) : IsRef w.heap.size S0 (w.alloc (.cells (encR (fun _ => 0) 0 false false false false) 59)) :=
  ⟨fun _ => 0, heap_alloc_new _ _, by rw [valN_zero]; rfl, fun i => by simp [S0]⟩

set_option maxHeartbeats 2000000 in
theorem rcount_at (g : Nat) (c : Int) (w : World) (h0 : w.cell? ⟨g, 136, none⟩ = some (.int .i64 c)) : Calls Try.prog 19 #[.pointer (some ⟨g, 0, none⟩)] w fun e w' => e = .returned (.int .i64 c) ∧ w' = w := by
  go_enter Try.func19, Try.ntmps19
  go_wp2
  go_ret
  exact ⟨rfl, rfl⟩
set_option maxHeartbeats 2000000 in
theorem rcount_nil (w : World) : Calls Try.prog 19 #[.pointer none] w fun e w' => e = .returned (.int .i64 0) ∧ w' = w := by
  go_enter Try.func19, Try.ntmps19
  go_wp2
  go_ret
  exact ⟨rfl, rfl⟩
set_option maxHeartbeats 2000000 in
theorem radd_nil (x : Nat) (w : World) : Calls Try.prog 13 #[.pointer none, .float .f64 x] w fun e w' => e = .returned (.int .i64 2) ∧ w' = w := by
  go_enter Try.func13, Try.ntmps13
  go_wp2
  go_ret
  exact ⟨rfl, rfl⟩
set_option maxHeartbeats 2000000 in
set_option maxRecDepth 100000 in
theorem radd_long (g x : Nat) (c : Int) (w : World) (h0 : w.cell? ⟨g, 136, none⟩ = some (.int .i64 c)) (hc : 1048576 ≤ c) : Calls Try.prog 13 #[.pointer (some ⟨g, 0, none⟩), .float .f64 x] w fun e w' => e = .returned (.int .i64 3) ∧ w' = w := by
  go_enter Try.func13, Try.ntmps13
  go_wp2
  go_ret
  exact ⟨rfl, rfl⟩
set_option maxHeartbeats 2000000 in
set_option maxRecDepth 100000 in
theorem rprod_nil (x y : Nat) (w : World) : Calls Try.prog 15 #[.pointer none, .float .f64 x, .float .f64 y] w fun e w' => e = .returned (.int .i64 2) ∧ w' = w := by
  go_enter Try.func15, Try.ntmps15
  go_wp2
  go_ret
  exact ⟨rfl, rfl⟩
set_option maxHeartbeats 2000000 in
set_option maxRecDepth 100000 in
theorem rprod_long (g x y : Nat) (c : Int) (w : World) (h0 : w.cell? ⟨g, 136, none⟩ = some (.int .i64 c)) (hc : 1048576 ≤ c) : Calls Try.prog 15 #[.pointer (some ⟨g, 0, none⟩), .float .f64 x, .float .f64 y] w fun e w' => e = .returned (.int .i64 3) ∧ w' = w := by
  go_enter Try.func15, Try.ntmps15
  go_wp2
  go_ret
  exact ⟨rfl, rfl⟩

set_option maxHeartbeats 2000000 in
theorem radd_odd (g x : Nat) (c a : Int) (z b : Bool) (w : World) (Q : World → Prop) (h0 : w.cell? ⟨g, 136, none⟩ = some (.int .i64 c)) (f0 : w.frozen? ⟨g, 136, none⟩ = false) (c0 : 0 ≤ c) (c1 : c < 1048576)
    (P : Hid (∀ w, Calls Try.prog 27 #[.float .f64 x] w fun r w' => r = .returned (.tuple #[.bool z, .int .u64 0, .int .i64 0, .int .i64 a]) ∧ w' = w)) (a0 : 0 < a) (hb : (a == 2) = b)
    (O : Hid (Calls Try.prog 28 #[.pointer (some ⟨g, 0, none⟩), .bool z, .bool b] (w.setCell ⟨g, 136, none⟩ (.int .i64 (c + 1))) fun r w' => r = .returned (.tuple #[]) ∧ Q w')) :
    Calls Try.prog 13 #[.pointer (some ⟨g, 0, none⟩), .float .f64 x] w fun e w' => e = .returned (.int .i64 0) ∧ Q w' := by
  go_enter Try.func13, Try.ntmps13
  go_wp2_with fail
  refine (P.out _).mono ?_
  rintro e w1 ⟨rfl, rfl⟩
  go_wp2_with fail
  refine O.out.mono ?_
  rintro e w2 ⟨rfl, hQ⟩
  go_wp2
  go_ret
  exact ⟨rfl, hQ⟩
set_option maxHeartbeats 2000000 in
theorem radd_fin1 (g x : Nat) (c m e : Int) (z : Bool) (w : World) (Q : World → Prop) (h0 : w.cell? ⟨g, 136, none⟩ = some (.int .i64 c)) (f0 : w.frozen? ⟨g, 136, none⟩ = false) (c0 : 0 ≤ c) (c1 : c < 1048576)
    (h1 : w.cell? ⟨g, 140, none⟩ = some (.bool true)) (f1 : w.frozen? ⟨g, 140, none⟩ = false) 
    (P : Hid (∀ w, Calls Try.prog 27 #[.float .f64 x] w fun r w' => r = .returned (.tuple #[.bool z, .int .u64 m, .int .i64 e, .int .i64 0]) ∧ w' = w))
    (O : Hid (Calls Try.prog 29 #[.pointer (some ⟨g, 0, none⟩), .bool z, .int .u64 m, .int .i64 e] ((w.setCell ⟨g, 136, none⟩ (.int .i64 (c + 1))).setCell ⟨g, 140, none⟩ (.bool true)) fun r w' => r = .returned (.tuple #[]) ∧ Q w')) :
    Calls Try.prog 13 #[.pointer (some ⟨g, 0, none⟩), .float .f64 x] w fun e w' => e = .returned (.int .i64 0) ∧ Q w' := by
  go_enter Try.func13, Try.ntmps13
  go_wp2_with fail
  refine (P.out _).mono ?_
  rintro e w1 ⟨rfl, rfl⟩
  go_wp2_with fail
  refine O.out.mono ?_
  rintro e w2 ⟨rfl, hQ⟩
  go_wp2
  go_ret
  exact ⟨rfl, hQ⟩
set_option maxHeartbeats 2000000 in
theorem radd_fin2 (g x : Nat) (c m e : Int) (z : Bool) (w : World) (Q : World → Prop) (h0 : w.cell? ⟨g, 136, none⟩ = some (.int .i64 c)) (f0 : w.frozen? ⟨g, 136, none⟩ = false) (c0 : 0 ≤ c) (c1 : c < 1048576)
    (h1 : w.cell? ⟨g, 140, none⟩ = some (.bool false)) (f1 : w.frozen? ⟨g, 140, none⟩ = false) (m0 : 0 < m)
    (P : Hid (∀ w, Calls Try.prog 27 #[.float .f64 x] w fun r w' => r = .returned (.tuple #[.bool z, .int .u64 m, .int .i64 e, .int .i64 0]) ∧ w' = w))
    (O : Hid (Calls Try.prog 29 #[.pointer (some ⟨g, 0, none⟩), .bool z, .int .u64 m, .int .i64 e] ((w.setCell ⟨g, 136, none⟩ (.int .i64 (c + 1))).setCell ⟨g, 140, none⟩ (.bool true)) fun r w' => r = .returned (.tuple #[]) ∧ Q w')) :
    Calls Try.prog 13 #[.pointer (some ⟨g, 0, none⟩), .float .f64 x] w fun e w' => e = .returned (.int .i64 0) ∧ Q w' := by
  go_enter Try.func13, Try.ntmps13
  go_wp2_with fail
  refine (P.out _).mono ?_
  rintro e w1 ⟨rfl, rfl⟩
  go_wp2_with fail
  refine O.out.mono ?_
  rintro e w2 ⟨rfl, hQ⟩
  go_wp2
  go_ret
  exact ⟨rfl, hQ⟩
set_option maxHeartbeats 2000000 in
theorem radd_fin3 (g x : Nat) (c e : Int) (w : World) (Q : World → Prop) (h0 : w.cell? ⟨g, 136, none⟩ = some (.int .i64 c)) (f0 : w.frozen? ⟨g, 136, none⟩ = false) (c0 : 0 ≤ c) (c1 : c < 1048576)
    (h1 : w.cell? ⟨g, 140, none⟩ = some (.bool false)) (f1 : w.frozen? ⟨g, 140, none⟩ = false) 
    (P : Hid (∀ w, Calls Try.prog 27 #[.float .f64 x] w fun r w' => r = .returned (.tuple #[.bool false, .int .u64 0, .int .i64 e, .int .i64 0]) ∧ w' = w))
    (O : Hid (Calls Try.prog 29 #[.pointer (some ⟨g, 0, none⟩), .bool false, .int .u64 0, .int .i64 e] ((w.setCell ⟨g, 136, none⟩ (.int .i64 (c + 1))).setCell ⟨g, 140, none⟩ (.bool true)) fun r w' => r = .returned (.tuple #[]) ∧ Q w')) :
    Calls Try.prog 13 #[.pointer (some ⟨g, 0, none⟩), .float .f64 x] w fun e w' => e = .returned (.int .i64 0) ∧ Q w' := by
  go_enter Try.func13, Try.ntmps13
  go_wp2_with fail
  refine (P.out _).mono ?_
  rintro e w1 ⟨rfl, rfl⟩
  go_wp2_with fail
  refine O.out.mono ?_
  rintro e w2 ⟨rfl, hQ⟩
  go_wp2
  go_ret
  exact ⟨rfl, hQ⟩
set_option maxHeartbeats 2000000 in
theorem radd_fin4 (g x : Nat) (c e : Int) (w : World) (Q : World → Prop) (h0 : w.cell? ⟨g, 136, none⟩ = some (.int .i64 c)) (f0 : w.frozen? ⟨g, 136, none⟩ = false) (c0 : 0 ≤ c) (c1 : c < 1048576)
    (h1 : w.cell? ⟨g, 140, none⟩ = some (.bool false)) (f1 : w.frozen? ⟨g, 140, none⟩ = false) 
    (P : Hid (∀ w, Calls Try.prog 27 #[.float .f64 x] w fun r w' => r = .returned (.tuple #[.bool true, .int .u64 0, .int .i64 e, .int .i64 0]) ∧ w' = w))
    (O : Hid (Calls Try.prog 29 #[.pointer (some ⟨g, 0, none⟩), .bool true, .int .u64 0, .int .i64 e] ((w.setCell ⟨g, 136, none⟩ (.int .i64 (c + 1))).setCell ⟨g, 140, none⟩ (.bool false)) fun r w' => r = .returned (.tuple #[]) ∧ Q w')) :
    Calls Try.prog 13 #[.pointer (some ⟨g, 0, none⟩), .float .f64 x] w fun e w' => e = .returned (.int .i64 0) ∧ Q w' := by
  go_enter Try.func13, Try.ntmps13
  go_wp2_with fail
  refine (P.out _).mono ?_
  rintro e w1 ⟨rfl, rfl⟩
  go_wp2_with fail
  refine O.out.mono ?_
  rintro e w2 ⟨rfl, hQ⟩
  go_wp2
  go_ret
  exact ⟨rfl, hQ⟩
end Go.Proofs.Ytgbnabpbheebjaa
