/-
  Quotients, factors, parts of two amounts: the walk (layer 14).
-/
import Derived.Test.YtpbidcjfnkmddaaUi
namespace Go.Proofs.Ytpbidcjfnkmddaa
open Go.RowKit Go.Deep
namespace Sh
theorem and31 (n : Int) : bits .and .i64 n 2147483647 = n % 2147483648 := by
  have h127 : (BitVec.ofInt 64 2147483647).toNat = 2 ^ 31 - 1 := by decide
  have key : (BitVec.ofInt 64 n &&& BitVec.ofInt 64 2147483647).toNat = (n % ((2 ^ 64 : Nat) : Int)).toNat % 2 ^ 31 := by
    rw [BitVec.toNat_and, BitVec.toNat_ofInt, h127, Nat.and_two_pow_sub_one_eq_mod]
  show IntKind.i64.wrap ((BitVec.ofInt 64 n &&& BitVec.ofInt 64 2147483647).toNat : Nat) = n % 2147483648
  rw [key, IntKind.wrap_i64]
  omega
theorem and63 (n : Int) : bits .and .i64 n 9223372036854775807 = n % 9223372036854775808 := by
  have h127 : (BitVec.ofInt 64 9223372036854775807).toNat = 2 ^ 63 - 1 := by decide
  have key : (BitVec.ofInt 64 n &&& BitVec.ofInt 64 9223372036854775807).toNat = (n % ((2 ^ 64 : Nat) : Int)).toNat % 2 ^ 63 := by
    rw [BitVec.toNat_and, BitVec.toNat_ofInt, h127, Nat.and_two_pow_sub_one_eq_mod]
  show IntKind.i64.wrap ((BitVec.ofInt 64 n &&& BitVec.ofInt 64 9223372036854775807).toNat : Nat) = n % 9223372036854775808
  rw [key, IntKind.wrap_i64]
  omega
theorem part_small {x y z : Int} (hx : 0 ≤ x) (hy : 0 ≤ y) (hz : 0 < z) (h : x * y ≤ 9223372036854775807) : part x y z = x * y / z ∧ 0 ≤ x * y / z ∧ x * y / z ≤ x * y := by
  have p := Int.mul_nonneg hx hy
  have q : x * y / z ≤ x * y := Int.ediv_le_self _ p
  have r : 0 ≤ x * y / z := Int.ediv_nonneg p (by omega)
  refine ⟨?_, r, q⟩
  unfold part
  rw [if_neg (by omega), if_neg (by omega)]
theorem part_self {g z : Int} (hg : 0 ≤ g) (hg2 : g ≤ 9223372036854775807) (hz : 0 < z) : part g z z = g ∧ part z g z = g ∧ part g 0 z = 0 := by
  have e : g * z / z = g := Int.mul_ediv_cancel _ (by omega)
  refine ⟨?_, ?_, ?_⟩
  · unfold part; rw [if_neg (by omega), e, if_neg (by omega)]
  · unfold part; rw [if_neg (by omega), Int.mul_comm, e, if_neg (by omega)]
  · unfold part; rw [if_neg (by omega), Int.mul_zero, Int.zero_ediv, if_neg (by omega)]
theorem part_z0 (x y : Int) : part x y 0 = 0 := by unfold part; rw [if_pos (by omega)]
theorem two_parts {x y m z : Int} (hz : 0 < z) : x * (y + m) / z = x * y / z + x * m / z ∨ x * (y + m) / z = x * y / z + x * m / z + 1 := by
  rw [Int.mul_add]
  have d1 := div_two (a := x * y) hz
  have d2 := div_two (a := x * m) hz
  have d3 := div_two (a := x * y + x * m) hz
  generalize x * y / z = a at *
  generalize x * m / z = b at *
  generalize (x * y + x * m) / z = c at *
  generalize x * y = p at *
  generalize x * m = q at *
  have k1 : z * c < z * (a + b + 2) := by
    have : z * (a + b + 2) = z * a + z * b + (z + z) := by rw [Int.mul_add, Int.mul_add]; omega
    omega
  have k2 : z * (a + b) < z * (c + 1) := by
    have e1 : z * (a + b) = z * a + z * b := Int.mul_add _ _ _
    have e2 : z * (c + 1) = z * c + z := by rw [Int.mul_add, Int.mul_one]
    omega
  have l1 := Int.lt_of_mul_lt_mul_left k1 (by omega)
  have l2 := Int.lt_of_mul_lt_mul_left k2 (by omega)
  omega
set_option maxRecDepth 100000 in
set_option maxHeartbeats 8000000 in
theorem whole_zero (X Y Z M x y z m : Int) (w : World) (LV : Hid (∀ v, Calls Try.prog 6 #[] v fun e w' => e = .returned (.bool true) ∧ Below v.heap.size v w')) (hX : bits BinOp.and IntKind.i64 X 2147483647 = x) (hY : bits BinOp.and IntKind.i64 Y 2147483647 = y) (hZ : bits BinOp.and IntKind.i64 Z 2147483647 = z) (hM : bits BinOp.and IntKind.i64 M 2147483647 = m) (hz : (z == 0) = true)
    (P1 : Hid (∀ v, Calls Try.prog 7 #[.int .i64 x, .int .i64 y, .int .i64 z] v fun e w' => e = .returned (.int .i64 0) ∧ Below v.heap.size v w')) :
    Calls Try.prog 4 #[.agg #[.int .i64 X, .int .i64 Y, .int .i64 Z], .int .i64 M] w fun e w' => e = .returned (.bool true) ∧ Below w.heap.size w w' := by
  have GT : Hid ((w.alloc (.cells #[.int .i64 X, .int .i64 Y, .int .i64 Z] 25)).heap[w.heap.size]? = some (.cells #[.int .i64 X, .int .i64 Y, .int .i64 Z] 25)) := heap_alloc_new _ _
  have A0 : Hid (Ab w (w.alloc (.cells #[.int .i64 X, .int .i64 Y, .int .i64 Z] 25))) := bl1 _ _
  go_enter Try.func4, Try.ntmps4
  go_wp2_with fail
  refine (LV.out _).mono ?_
  rintro e w1 ⟨rfl, b1⟩
  have A1 : Hid (Ab (w.alloc (.cells #[.int .i64 X, .int .i64 Y, .int .i64 Z] 25)) w1) := b1
  clear b1
  have c0 := cell_of_row _ _ 0 _ _ _ (A1.out.heap GT.out)
  have c1 := cell_of_row _ _ 1 _ _ _ (A1.out.heap GT.out)
  have c2 := cell_of_row _ _ 2 _ _ _ (A1.out.heap GT.out)
  go_wp2_with fail
  refine (P1.out _).mono ?_
  rintro e w2 ⟨rfl, b2⟩
  have A2 : Hid (Ab w w2) := A0.out.trans (A1.out.trans b2)
  clear b2 c0 c1 c2
  go_wp2
  go_ret
  exact ⟨rfl, A2.out⟩
set_option maxRecDepth 100000 in
set_option maxHeartbeats 16000000 in
theorem whole_even (X Y Z M x y z m g a b c : Int) (w : World) (LV : Hid (∀ v, Calls Try.prog 6 #[] v fun e w' => e = .returned (.bool true) ∧ Below v.heap.size v w')) (hX : bits BinOp.and IntKind.i64 X 2147483647 = x) (hY : bits BinOp.and IntKind.i64 Y 2147483647 = y) (hZ : bits BinOp.and IntKind.i64 Z 2147483647 = z) (hM : bits BinOp.and IntKind.i64 M 2147483647 = m) (hG : bits BinOp.and IntKind.i64 X 9223372036854775807 = g) (hz : (z == 0) = false) (hz2 : ¬ z = 0)
    (hq : (x * y).tdiv z = a) (hw1 : IntKind.i64.wrap (x * y) = x * y) (hw2 : IntKind.i64.wrap (y + m) = y + m) (hw3 : IntKind.i64.wrap (a + b) = a + b) (_hw4 : IntKind.i64.wrap (a + b + 1) = a + b + 1) (hw5 : IntKind.i64.wrap a = a)
    (q1 : (c != a + b) = false)
    (P1 : Hid (∀ v, Calls Try.prog 7 #[.int .i64 x, .int .i64 y, .int .i64 z] v fun e w' => e = .returned (.int .i64 a) ∧ Below v.heap.size v w'))
    (P2 : Hid (∀ v, Calls Try.prog 7 #[.int .i64 x, .int .i64 m, .int .i64 z] v fun e w' => e = .returned (.int .i64 b) ∧ Below v.heap.size v w'))
    (P3 : Hid (∀ v, Calls Try.prog 7 #[.int .i64 x, .int .i64 (y + m), .int .i64 z] v fun e w' => e = .returned (.int .i64 c) ∧ Below v.heap.size v w'))
    (P4 : Hid (∀ v, Calls Try.prog 7 #[.int .i64 y, .int .i64 x, .int .i64 z] v fun e w' => e = .returned (.int .i64 a) ∧ Below v.heap.size v w'))
    (P5 : Hid (∀ v, Calls Try.prog 7 #[.int .i64 x, .int .i64 z, .int .i64 z] v fun e w' => e = .returned (.int .i64 x) ∧ Below v.heap.size v w'))
    (P6 : Hid (∀ v, Calls Try.prog 7 #[.int .i64 g, .int .i64 z, .int .i64 z] v fun e w' => e = .returned (.int .i64 g) ∧ Below v.heap.size v w'))
    (P7 : Hid (∀ v, Calls Try.prog 7 #[.int .i64 z, .int .i64 g, .int .i64 z] v fun e w' => e = .returned (.int .i64 g) ∧ Below v.heap.size v w'))
    (P8 : Hid (∀ v, Calls Try.prog 7 #[.int .i64 g, .int .i64 0, .int .i64 z] v fun e w' => e = .returned (.int .i64 0) ∧ Below v.heap.size v w')) :
    Calls Try.prog 4 #[.agg #[.int .i64 X, .int .i64 Y, .int .i64 Z], .int .i64 M] w fun e w' => e = .returned (.bool true) ∧ Below w.heap.size w w' := by
  have aa : (a != a) = false := by simp
  have xx : (x != x) = false := by simp
  have gg : (g == g) = true := by simp
  have GT : Hid ((w.alloc (.cells #[.int .i64 X, .int .i64 Y, .int .i64 Z] 25)).heap[w.heap.size]? = some (.cells #[.int .i64 X, .int .i64 Y, .int .i64 Z] 25)) := heap_alloc_new _ _
  have A0 : Hid (Ab w (w.alloc (.cells #[.int .i64 X, .int .i64 Y, .int .i64 Z] 25))) := bl1 _ _
  go_enter Try.func4, Try.ntmps4
  go_wp2_with fail
  refine (LV.out _).mono ?_
  rintro e w1 ⟨rfl, b1⟩
  have A1 : Hid (Ab (w.alloc (.cells #[.int .i64 X, .int .i64 Y, .int .i64 Z] 25)) w1) := b1
  clear b1
  have c0 := cell_of_row _ _ 0 _ _ _ (A1.out.heap GT.out)
  have c1 := cell_of_row _ _ 1 _ _ _ (A1.out.heap GT.out)
  have c2 := cell_of_row _ _ 2 _ _ _ (A1.out.heap GT.out)
  go_wp2_with fail
  refine (P1.out _).mono ?_
  rintro e v2 ⟨rfl, b2⟩
  have A2 : Hid (Ab (w.alloc (.cells #[.int .i64 X, .int .i64 Y, .int .i64 Z] 25)) v2) := A1.out.trans b2
  clear b2 c0 c1 c2
  have c0 := cell_of_row _ _ 0 _ _ _ (A2.out.heap GT.out)
  have c1 := cell_of_row _ _ 1 _ _ _ (A2.out.heap GT.out)
  have c2 := cell_of_row _ _ 2 _ _ _ (A2.out.heap GT.out)
  go_wp2_with fail
  refine (P2.out _).mono ?_
  rintro e v3 ⟨rfl, b2⟩
  have A3 : Hid (Ab (w.alloc (.cells #[.int .i64 X, .int .i64 Y, .int .i64 Z] 25)) v3) := A2.out.trans b2
  clear b2 c0 c1 c2
  have c0 := cell_of_row _ _ 0 _ _ _ (A3.out.heap GT.out)
  have c1 := cell_of_row _ _ 1 _ _ _ (A3.out.heap GT.out)
  have c2 := cell_of_row _ _ 2 _ _ _ (A3.out.heap GT.out)
  go_wp2_with fail
  refine (P3.out _).mono ?_
  rintro e v4 ⟨rfl, b2⟩
  have A4 : Hid (Ab (w.alloc (.cells #[.int .i64 X, .int .i64 Y, .int .i64 Z] 25)) v4) := A3.out.trans b2
  clear b2 c0 c1 c2
  have c0 := cell_of_row _ _ 0 _ _ _ (A4.out.heap GT.out)
  have c1 := cell_of_row _ _ 1 _ _ _ (A4.out.heap GT.out)
  have c2 := cell_of_row _ _ 2 _ _ _ (A4.out.heap GT.out)
  go_wp2_with fail
  refine (P4.out _).mono ?_
  rintro e v5 ⟨rfl, b2⟩
  have A5 : Hid (Ab (w.alloc (.cells #[.int .i64 X, .int .i64 Y, .int .i64 Z] 25)) v5) := A4.out.trans b2
  clear b2 c0 c1 c2
  have c0 := cell_of_row _ _ 0 _ _ _ (A5.out.heap GT.out)
  have c1 := cell_of_row _ _ 1 _ _ _ (A5.out.heap GT.out)
  have c2 := cell_of_row _ _ 2 _ _ _ (A5.out.heap GT.out)
  go_wp2_with fail
  refine (P5.out _).mono ?_
  rintro e v6 ⟨rfl, b2⟩
  have A6 : Hid (Ab (w.alloc (.cells #[.int .i64 X, .int .i64 Y, .int .i64 Z] 25)) v6) := A5.out.trans b2
  clear b2 c0 c1 c2
  have c0 := cell_of_row _ _ 0 _ _ _ (A6.out.heap GT.out)
  have c1 := cell_of_row _ _ 1 _ _ _ (A6.out.heap GT.out)
  have c2 := cell_of_row _ _ 2 _ _ _ (A6.out.heap GT.out)
  go_wp2_with fail
  refine (P6.out _).mono ?_
  rintro e v7 ⟨rfl, b2⟩
  have A7 : Hid (Ab (w.alloc (.cells #[.int .i64 X, .int .i64 Y, .int .i64 Z] 25)) v7) := A6.out.trans b2
  clear b2 c0 c1 c2
  have c0 := cell_of_row _ _ 0 _ _ _ (A7.out.heap GT.out)
  have c1 := cell_of_row _ _ 1 _ _ _ (A7.out.heap GT.out)
  have c2 := cell_of_row _ _ 2 _ _ _ (A7.out.heap GT.out)
  go_wp2_with fail
  refine (P7.out _).mono ?_
  rintro e v8 ⟨rfl, b2⟩
  have A8 : Hid (Ab (w.alloc (.cells #[.int .i64 X, .int .i64 Y, .int .i64 Z] 25)) v8) := A7.out.trans b2
  clear b2 c0 c1 c2
  have c0 := cell_of_row _ _ 0 _ _ _ (A8.out.heap GT.out)
  have c1 := cell_of_row _ _ 1 _ _ _ (A8.out.heap GT.out)
  have c2 := cell_of_row _ _ 2 _ _ _ (A8.out.heap GT.out)
  go_wp2_with fail
  refine (P8.out _).mono ?_
  rintro e v9 ⟨rfl, b2⟩
  have A9 : Hid (Ab (w.alloc (.cells #[.int .i64 X, .int .i64 Y, .int .i64 Z] 25)) v9) := A8.out.trans b2
  clear b2 c0 c1 c2
  have c0 := cell_of_row _ _ 0 _ _ _ (A9.out.heap GT.out)
  have c1 := cell_of_row _ _ 1 _ _ _ (A9.out.heap GT.out)
  have c2 := cell_of_row _ _ 2 _ _ _ (A9.out.heap GT.out)
  go_wp2
  go_ret
  exact ⟨rfl, A0.out.trans A9.out⟩
set_option maxRecDepth 100000 in
set_option maxHeartbeats 16000000 in
theorem whole_more (X Y Z M x y z m g a b c : Int) (w : World) (LV : Hid (∀ v, Calls Try.prog 6 #[] v fun e w' => e = .returned (.bool true) ∧ Below v.heap.size v w')) (hX : bits BinOp.and IntKind.i64 X 2147483647 = x) (hY : bits BinOp.and IntKind.i64 Y 2147483647 = y) (hZ : bits BinOp.and IntKind.i64 Z 2147483647 = z) (hM : bits BinOp.and IntKind.i64 M 2147483647 = m) (hG : bits BinOp.and IntKind.i64 X 9223372036854775807 = g) (hz : (z == 0) = false) (hz2 : ¬ z = 0)
    (hq : (x * y).tdiv z = a) (hw1 : IntKind.i64.wrap (x * y) = x * y) (hw2 : IntKind.i64.wrap (y + m) = y + m) (hw3 : IntKind.i64.wrap (a + b) = a + b) (hw4 : IntKind.i64.wrap (a + b + 1) = a + b + 1) (hw5 : IntKind.i64.wrap a = a)
    (q1 : (c != a + b) = true) (q2 : (c != a + b + 1) = false)
    (P1 : Hid (∀ v, Calls Try.prog 7 #[.int .i64 x, .int .i64 y, .int .i64 z] v fun e w' => e = .returned (.int .i64 a) ∧ Below v.heap.size v w'))
    (P2 : Hid (∀ v, Calls Try.prog 7 #[.int .i64 x, .int .i64 m, .int .i64 z] v fun e w' => e = .returned (.int .i64 b) ∧ Below v.heap.size v w'))
    (P3 : Hid (∀ v, Calls Try.prog 7 #[.int .i64 x, .int .i64 (y + m), .int .i64 z] v fun e w' => e = .returned (.int .i64 c) ∧ Below v.heap.size v w'))
    (P4 : Hid (∀ v, Calls Try.prog 7 #[.int .i64 y, .int .i64 x, .int .i64 z] v fun e w' => e = .returned (.int .i64 a) ∧ Below v.heap.size v w'))
    (P5 : Hid (∀ v, Calls Try.prog 7 #[.int .i64 x, .int .i64 z, .int .i64 z] v fun e w' => e = .returned (.int .i64 x) ∧ Below v.heap.size v w'))
    (P6 : Hid (∀ v, Calls Try.prog 7 #[.int .i64 g, .int .i64 z, .int .i64 z] v fun e w' => e = .returned (.int .i64 g) ∧ Below v.heap.size v w'))
    (P7 : Hid (∀ v, Calls Try.prog 7 #[.int .i64 z, .int .i64 g, .int .i64 z] v fun e w' => e = .returned (.int .i64 g) ∧ Below v.heap.size v w'))
    (P8 : Hid (∀ v, Calls Try.prog 7 #[.int .i64 g, .int .i64 0, .int .i64 z] v fun e w' => e = .returned (.int .i64 0) ∧ Below v.heap.size v w')) :
    Calls Try.prog 4 #[.agg #[.int .i64 X, .int .i64 Y, .int .i64 Z], .int .i64 M] w fun e w' => e = .returned (.bool true) ∧ Below w.heap.size w w' := by
  have aa : (a != a) = false := by simp
  have xx : (x != x) = false := by simp
  have gg : (g == g) = true := by simp
  have GT : Hid ((w.alloc (.cells #[.int .i64 X, .int .i64 Y, .int .i64 Z] 25)).heap[w.heap.size]? = some (.cells #[.int .i64 X, .int .i64 Y, .int .i64 Z] 25)) := heap_alloc_new _ _
  have A0 : Hid (Ab w (w.alloc (.cells #[.int .i64 X, .int .i64 Y, .int .i64 Z] 25))) := bl1 _ _
  go_enter Try.func4, Try.ntmps4
  go_wp2_with fail
  refine (LV.out _).mono ?_
  rintro e w1 ⟨rfl, b1⟩
  have A1 : Hid (Ab (w.alloc (.cells #[.int .i64 X, .int .i64 Y, .int .i64 Z] 25)) w1) := b1
  clear b1
  have c0 := cell_of_row _ _ 0 _ _ _ (A1.out.heap GT.out)
  have c1 := cell_of_row _ _ 1 _ _ _ (A1.out.heap GT.out)
  have c2 := cell_of_row _ _ 2 _ _ _ (A1.out.heap GT.out)
  go_wp2_with fail
  refine (P1.out _).mono ?_
  rintro e v2 ⟨rfl, b2⟩
  have A2 : Hid (Ab (w.alloc (.cells #[.int .i64 X, .int .i64 Y, .int .i64 Z] 25)) v2) := A1.out.trans b2
  clear b2 c0 c1 c2
  have c0 := cell_of_row _ _ 0 _ _ _ (A2.out.heap GT.out)
  have c1 := cell_of_row _ _ 1 _ _ _ (A2.out.heap GT.out)
  have c2 := cell_of_row _ _ 2 _ _ _ (A2.out.heap GT.out)
  go_wp2_with fail
  refine (P2.out _).mono ?_
  rintro e v3 ⟨rfl, b2⟩
  have A3 : Hid (Ab (w.alloc (.cells #[.int .i64 X, .int .i64 Y, .int .i64 Z] 25)) v3) := A2.out.trans b2
  clear b2 c0 c1 c2
  have c0 := cell_of_row _ _ 0 _ _ _ (A3.out.heap GT.out)
  have c1 := cell_of_row _ _ 1 _ _ _ (A3.out.heap GT.out)
  have c2 := cell_of_row _ _ 2 _ _ _ (A3.out.heap GT.out)
  go_wp2_with fail
  refine (P3.out _).mono ?_
  rintro e v4 ⟨rfl, b2⟩
  have A4 : Hid (Ab (w.alloc (.cells #[.int .i64 X, .int .i64 Y, .int .i64 Z] 25)) v4) := A3.out.trans b2
  clear b2 c0 c1 c2
  have c0 := cell_of_row _ _ 0 _ _ _ (A4.out.heap GT.out)
  have c1 := cell_of_row _ _ 1 _ _ _ (A4.out.heap GT.out)
  have c2 := cell_of_row _ _ 2 _ _ _ (A4.out.heap GT.out)
  go_wp2_with fail
  refine (P4.out _).mono ?_
  rintro e v5 ⟨rfl, b2⟩
  have A5 : Hid (Ab (w.alloc (.cells #[.int .i64 X, .int .i64 Y, .int .i64 Z] 25)) v5) := A4.out.trans b2
  clear b2 c0 c1 c2
  have c0 := cell_of_row _ _ 0 _ _ _ (A5.out.heap GT.out)
  have c1 := cell_of_row _ _ 1 _ _ _ (A5.out.heap GT.out)
  have c2 := cell_of_row _ _ 2 _ _ _ (A5.out.heap GT.out)
  go_wp2_with fail
  refine (P5.out _).mono ?_
  rintro e v6 ⟨rfl, b2⟩
  have A6 : Hid (Ab (w.alloc (.cells #[.int .i64 X, .int .i64 Y, .int .i64 Z] 25)) v6) := A5.out.trans b2
  clear b2 c0 c1 c2
  have c0 := cell_of_row _ _ 0 _ _ _ (A6.out.heap GT.out)
  have c1 := cell_of_row _ _ 1 _ _ _ (A6.out.heap GT.out)
  have c2 := cell_of_row _ _ 2 _ _ _ (A6.out.heap GT.out)
  go_wp2_with fail
  refine (P6.out _).mono ?_
  rintro e v7 ⟨rfl, b2⟩
  have A7 : Hid (Ab (w.alloc (.cells #[.int .i64 X, .int .i64 Y, .int .i64 Z] 25)) v7) := A6.out.trans b2
  clear b2 c0 c1 c2
  have c0 := cell_of_row _ _ 0 _ _ _ (A7.out.heap GT.out)
  have c1 := cell_of_row _ _ 1 _ _ _ (A7.out.heap GT.out)
  have c2 := cell_of_row _ _ 2 _ _ _ (A7.out.heap GT.out)
  go_wp2_with fail
  refine (P7.out _).mono ?_
  rintro e v8 ⟨rfl, b2⟩
  have A8 : Hid (Ab (w.alloc (.cells #[.int .i64 X, .int .i64 Y, .int .i64 Z] 25)) v8) := A7.out.trans b2
  clear b2 c0 c1 c2
  have c0 := cell_of_row _ _ 0 _ _ _ (A8.out.heap GT.out)
  have c1 := cell_of_row _ _ 1 _ _ _ (A8.out.heap GT.out)
  have c2 := cell_of_row _ _ 2 _ _ _ (A8.out.heap GT.out)
  go_wp2_with fail
  refine (P8.out _).mono ?_
  rintro e v9 ⟨rfl, b2⟩
  have A9 : Hid (Ab (w.alloc (.cells #[.int .i64 X, .int .i64 Y, .int .i64 Z] 25)) v9) := A8.out.trans b2
  clear b2 c0 c1 c2
  have c0 := cell_of_row _ _ 0 _ _ _ (A9.out.heap GT.out)
  have c1 := cell_of_row _ _ 1 _ _ _ (A9.out.heap GT.out)
  have c2 := cell_of_row _ _ 2 _ _ _ (A9.out.heap GT.out)
  go_wp2
  go_ret
  exact ⟨rfl, A0.out.trans A9.out⟩
theorem whole_at (PC : PartC) (CC : CutC) (X Y Z M : Int) (w : World) :
    Calls Try.prog 4 #[.agg #[.int .i64 X, .int .i64 Y, .int .i64 Z], .int .i64 M] w fun e w' => e = .returned (.bool true) ∧ Below w.heap.size w w' := by
  have LV : Hid (∀ v, Calls Try.prog 6 #[] v fun e w' => e = .returned (.bool true) ∧ Below v.heap.size v w') := fun v => awake_at PC CC v
  obtain ⟨x, hX⟩ : ∃ x, bits BinOp.and IntKind.i64 X 2147483647 = x := ⟨_, rfl⟩
  obtain ⟨y, hY⟩ : ∃ x, bits BinOp.and IntKind.i64 Y 2147483647 = x := ⟨_, rfl⟩
  obtain ⟨z, hZ⟩ : ∃ x, bits BinOp.and IntKind.i64 Z 2147483647 = x := ⟨_, rfl⟩
  obtain ⟨m, hM⟩ : ∃ x, bits BinOp.and IntKind.i64 M 2147483647 = x := ⟨_, rfl⟩
  obtain ⟨g, hG⟩ : ∃ x, bits BinOp.and IntKind.i64 X 9223372036854775807 = x := ⟨_, rfl⟩
  have bx : 0 ≤ x ∧ x ≤ 2147483647 := by rw [← hX, and31]; omega
  have bb : 0 ≤ y ∧ y ≤ 2147483647 := by rw [← hY, and31]; omega
  have bz : 0 ≤ z ∧ z ≤ 2147483647 := by rw [← hZ, and31]; omega
  have bm : 0 ≤ m ∧ m ≤ 2147483647 := by rw [← hM, and31]; omega
  have bg : 0 ≤ g ∧ g ≤ 9223372036854775807 := by rw [← hG, and63]; omega
  have wx : W64 x := by unfold W64; omega
  have wy : W64 y := by unfold W64; omega
  have wz : W64 z := by unfold W64; omega
  have wm : W64 m := by unfold W64; omega
  have wym : W64 (y + m) := by unfold W64; omega
  have wg : W64 g := by unfold W64; omega
  by_cases hz : z = 0
  · subst hz
    exact whole_zero X Y Z M x y 0 m w LV hX hY hZ hM rfl (fun v => by have h := PC x y 0 v wx wy wz; rwa [part_z0] at h)
  · have m1 := mul_bd (a := x) (b := y) (m := 2147483647) bx.1 bb.1 bx.2 bb.2
    have m2 := mul_bd (a := x) (b := m) (m := 2147483647) bx.1 bm.1 bx.2 bm.2
    have m3 : x * (y + m) = x * y + x * m := Int.mul_add _ _ _
    have m0 : (2147483647 : Int) * 2147483647 = 4611686014132420609 := by decide
    have s1 := part_small (z := z) bx.1 bb.1 (by omega) (by omega)
    have s2 := part_small (z := z) bx.1 bm.1 (by omega) (by omega)
    have s3 := part_small (x := x) (y := y + m) (z := z) bx.1 (by omega) (by omega) (by omega)
    have s4 := part_small (x := y) (y := x) (z := z) bb.1 bx.1 (by omega) (by rw [Int.mul_comm]; omega)
    have s5 := part_self (g := x) (z := z) bx.1 (by omega) (by omega)
    have s6 := part_self (g := g) (z := z) bg.1 bg.2 (by omega)
    have s7 := two_parts (x := x) (y := y) (m := m) (z := z) (by omega)
    have Q1 : Hid (∀ v, Calls Try.prog 7 #[.int .i64 x, .int .i64 y, .int .i64 z] v fun e w' => e = .returned (.int .i64 (x * y / z)) ∧ Below v.heap.size v w') := fun v => by have h := PC x y z v wx wy wz; rwa [s1.1] at h
    have Q2 : Hid (∀ v, Calls Try.prog 7 #[.int .i64 x, .int .i64 m, .int .i64 z] v fun e w' => e = .returned (.int .i64 (x * m / z)) ∧ Below v.heap.size v w') := fun v => by have h := PC x m z v wx wm wz; rwa [s2.1] at h
    have Q3 : Hid (∀ v, Calls Try.prog 7 #[.int .i64 x, .int .i64 (y + m), .int .i64 z] v fun e w' => e = .returned (.int .i64 (x * (y + m) / z)) ∧ Below v.heap.size v w') := fun v => by have h := PC x (y + m) z v wx wym wz; rwa [s3.1] at h
    have Q4 : Hid (∀ v, Calls Try.prog 7 #[.int .i64 y, .int .i64 x, .int .i64 z] v fun e w' => e = .returned (.int .i64 (x * y / z)) ∧ Below v.heap.size v w') := fun v => by have h := PC y x z v wy wx wz; rwa [s4.1, Int.mul_comm] at h
    have Q5 : Hid (∀ v, Calls Try.prog 7 #[.int .i64 x, .int .i64 z, .int .i64 z] v fun e w' => e = .returned (.int .i64 x) ∧ Below v.heap.size v w') := fun v => by have h := PC x z z v wx wz wz; rwa [s5.1] at h
    have Q6 : Hid (∀ v, Calls Try.prog 7 #[.int .i64 g, .int .i64 z, .int .i64 z] v fun e w' => e = .returned (.int .i64 g) ∧ Below v.heap.size v w') := fun v => by have h := PC g z z v wg wz wz; rwa [s6.1] at h
    have Q7 : Hid (∀ v, Calls Try.prog 7 #[.int .i64 z, .int .i64 g, .int .i64 z] v fun e w' => e = .returned (.int .i64 g) ∧ Below v.heap.size v w') := fun v => by have h := PC z g z v wz wg wz; rwa [s6.2.1] at h
    have Q8 : Hid (∀ v, Calls Try.prog 7 #[.int .i64 g, .int .i64 0, .int .i64 z] v fun e w' => e = .returned (.int .i64 0) ∧ Below v.heap.size v w') := fun v => by have h := PC g 0 z v wg (by unfold W64; omega) wz; rwa [s6.2.2] at h
    have tq : (x * y).tdiv z = x * y / z := Int.tdiv_eq_ediv_of_nonneg m1.1
    have zb : (z == 0) = false := by rw [beq_eq_false_iff_ne]; exact hz
    have v1 : IntKind.i64.wrap (x * y) = x * y := by rw [IntKind.wrap_i64]; omega
    have v2 : IntKind.i64.wrap (y + m) = y + m := by rw [IntKind.wrap_i64]; omega
    have v3 : IntKind.i64.wrap (x * y / z + x * m / z) = x * y / z + x * m / z := by rw [IntKind.wrap_i64]; omega
    have v4 : IntKind.i64.wrap (x * y / z + x * m / z + 1) = x * y / z + x * m / z + 1 := by rw [IntKind.wrap_i64]; omega
    have v5 : IntKind.i64.wrap (x * y / z) = x * y / z := by rw [IntKind.wrap_i64]; omega
    by_cases ev : x * (y + m) / z = x * y / z + x * m / z
    · exact whole_even X Y Z M x y z m g _ _ _ w LV hX hY hZ hM hG zb hz tq v1 v2 v3 v4 v5 (by rw [ev]; simp) Q1 Q2 Q3 Q4 Q5 Q6 Q7 Q8
    · exact whole_more X Y Z M x y z m g _ _ _ w LV hX hY hZ hM hG zb hz tq v1 v2 v3 v4 v5 (by rw [bne_iff_ne]; exact ev) (by rw [s7.resolve_left ev]; simp) Q1 Q2 Q3 Q4 Q5 Q6 Q7 Q8
end Sh
end Go.Proofs.Ytpbidcjfnkmddaa
