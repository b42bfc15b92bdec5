/-
  A product added: a walk over the program.
-/
import Derived.Test.YtgbnabpbheebjaaGd
namespace Go.Proofs.Ytgbnabpbheebjaa
open Go.RowKit Tf
attribute [local go_sem] run_bits run_from raw_feq raw_fne raw_flt raw_fgt run_neg

theorem two_pow_cast (k : Nat) : ((2 : Int) ^ k) = ((2 ^ k : Nat) : Int) := by rw [Int.natCast_pow]; rfl
theorem or_add (a b s : Nat) (hb : b < 2 ^ s) (h : a * 2 ^ s + b < 18446744073709551616) : bits .or .u64 ((a * 2 ^ s : Nat) : Int) (b : Int) = ((a * 2 ^ s + b : Nat) : Int) := by
  show IntKind.u64.wrap ((BitVec.ofInt 64 ((a * 2 ^ s : Nat) : Int) ||| BitVec.ofInt 64 (b : Int)).toNat : Int) = _
  rw [BitVec.toNat_or, ofInt_u64 _ (by omega), ofInt_u64 _ (by omega)]
  have := Nat.shiftLeft_add_eq_or_of_lt hb a
  rw [Nat.shiftLeft_eq] at this
  rw [← this, u64wr]
  omega

/-- the three words of a product, moved up by less than a word -/
theorem three_words (Q S P : Nat) (hPS : P * S = 18446744073709551616) (hS : 0 < S) (hP : 0 < P) :
    (Q * S) % 18446744073709551616 = (Q % 18446744073709551616 * S) % 18446744073709551616 ∧
    Q / 18446744073709551616 * S % 18446744073709551616 = Q / 18446744073709551616 % P * S ∧
    Q % 18446744073709551616 / P < S ∧ Q / 18446744073709551616 % P * S + Q % 18446744073709551616 / P < 18446744073709551616 ∧
    (Q * S) / 18446744073709551616 % 18446744073709551616 = Q / 18446744073709551616 % P * S + Q % 18446744073709551616 / P ∧
    (Q * S) / 18446744073709551616 / 18446744073709551616 = Q / 18446744073709551616 / P := by
  have hlo : Q % 18446744073709551616 < P * S := by rw [hPS]; omega
  have hQ : Q = Q / 18446744073709551616 * (P * S) + Q % 18446744073709551616 := by rw [hPS]; omega
  have hQ1 : Q / (P * S) = Q / 18446744073709551616 := by rw [hPS]
  have hQ2 : Q % (P * S) = Q % 18446744073709551616 := by rw [hPS]
  rw [← hPS]
  rw [← hPS] at hlo
  generalize hhi : Q / (P * S) = hi at *
  generalize hll : Q % (P * S) = lo at *
  have hWp : 0 < P * S := by rw [hPS]; omega
  have hb : lo / P < S := Nat.div_lt_of_lt_mul hlo
  have hr : hi % P < P := Nat.mod_lt _ hP
  have hc : hi = hi / P * P + hi % P := by have := Nat.div_add_mod hi P; rw [Nat.mul_comm] at this; omega
  have hrs : hi % P * S + lo / P < P * S := by
    have : (hi % P + 1) * S ≤ P * S := Nat.mul_le_mul_right S hr
    rw [Nat.add_mul, Nat.one_mul] at this; omega
  have hQS : Q * S = hi * S * (P * S) + lo * S := by
    have : Q = hi * (P * S) + lo := by rw [← hhi, ← hll]; have := Nat.div_add_mod Q (P * S); rw [Nat.mul_comm] at this; omega
    rw [this, Nat.add_mul, Nat.mul_right_comm]
  have hd : lo * S / (P * S) = lo / P := Nat.mul_div_mul_right lo P hS
  have hhs : hi * S = hi / P * (P * S) + hi % P * S := by
    conv => lhs; rw [hc]
    rw [Nat.add_mul, Nat.mul_assoc]
  have e1 : Q * S / (P * S) = hi * S + lo / P := by
    rw [hQS, Nat.add_comm (hi * S * (P * S)), Nat.add_mul_div_right _ _ hWp, hd, Nat.add_comm]
  have e2 : hi * S + lo / P = (hi % P * S + lo / P) + hi / P * (P * S) := by rw [hhs]; omega
  refine ⟨?_, ?_, hb, hrs, ?_, ?_⟩
  · rw [hQS, Nat.add_comm, Nat.add_mul_mod_self_right]
  · rw [hhs, Nat.add_comm, Nat.add_mul_mod_self_right, Nat.mod_eq_of_lt (Nat.lt_of_le_of_lt (Nat.le_add_right _ _) hrs)]
  · rw [e1, e2, Nat.add_mul_mod_self_right, Nat.mod_eq_of_lt hrs]
  · rw [e1, e2, Nat.add_mul_div_right _ _ hWp, Nat.div_eq_of_lt hrs, Nat.zero_add]

set_option maxHeartbeats 2000000 in
theorem fprod_go (g o x y : Nat) (off : Bool) (m n hi lo j k q s d0 d1 d2 : Int) (w : World) (Q : World → Prop)
    (P1 : Hid (∀ w, Calls Try.prog 44 #[.float .f64 x] w fun r w' => r = .returned (.tuple #[.int .u64 m, .int .i64 j]) ∧ w' = w))
    (P2 : Hid (∀ w, Calls Try.prog 44 #[.float .f64 y] w fun r w' => r = .returned (.tuple #[.int .u64 n, .int .i64 k]) ∧ w' = w))
    (P3 : Hid (∀ w, Calls Try.prog 45 #[.int .u64 m, .int .u64 n] w fun r w' => r = .returned (.tuple #[.int .u64 hi, .int .u64 lo]) ∧ w' = w))
    (j0 : 0 ≤ j) (j1 : j ≤ 2045) (k0 : 0 ≤ k) (k1 : k ≤ 2045) (hq : (j + k) / 64 = q) (hs : (j + k) % 64 = s) (s0 : 0 < s) (_s1 : s < 64) (hA : Hid (IntKind.u64.wrap (lo * 2 ^ s.toNat) = d0)) (hB : Hid (bits .or .u64 (IntKind.u64.wrap (hi * 2 ^ s.toNat)) (lo / 2 ^ (64 - s).toNat) = d1)) (hC : Hid (hi / 2 ^ (64 - s).toNat = d2))
    (F : Hid (Calls Try.prog 33 #[.pointer (some ⟨g, o, none⟩), .slice (some ⟨w.heap.size, 0, none⟩) 3 3, .int .i64 q, .bool off] (w.alloc (.cells #[.int .u64 d0, .int .u64 d1, .int .u64 d2] 81)) fun e w' => e = .returned (.tuple #[]) ∧ Q w')) :
    Calls Try.prog 32 #[.pointer (some ⟨g, o, none⟩), .float .f64 x, .float .f64 y, .bool off] w fun e w' => e = .returned (.tuple #[]) ∧ Q w' := by
  go_enter Try.func32, Try.ntmps32
  go_wp2_with fail
  refine (P1.out _).mono ?_
  rintro e w' ⟨rfl, rfl⟩
  go_wp2_with fail
  refine (P2.out _).mono ?_
  rintro e w' ⟨rfl, rfl⟩
  go_wp2_with fail
  refine (P3.out _).mono ?_
  rintro e w' ⟨rfl, rfl⟩
  go_wp2_with fail
  rw [hA.out, hB.out, hC.out]
  refine F.out.mono ?_
  rintro e w' ⟨rfl, hQ⟩
  go_wp2
  go_end0
  exact ⟨rfl, hQ⟩
set_option maxHeartbeats 2000000 in
theorem fprod_go0 (g o x y : Nat) (off : Bool) (m n hi lo j k q d0 d1 d2 : Int) (w : World) (Q : World → Prop)
    (P1 : Hid (∀ w, Calls Try.prog 44 #[.float .f64 x] w fun r w' => r = .returned (.tuple #[.int .u64 m, .int .i64 j]) ∧ w' = w))
    (P2 : Hid (∀ w, Calls Try.prog 44 #[.float .f64 y] w fun r w' => r = .returned (.tuple #[.int .u64 n, .int .i64 k]) ∧ w' = w))
    (P3 : Hid (∀ w, Calls Try.prog 45 #[.int .u64 m, .int .u64 n] w fun r w' => r = .returned (.tuple #[.int .u64 hi, .int .u64 lo]) ∧ w' = w))
    (j0 : 0 ≤ j) (j1 : j ≤ 2045) (k0 : 0 ≤ k) (k1 : k ≤ 2045) (hq : (j + k) / 64 = q) (hs : (j + k) % 64 = 0) (hA : Hid (lo = d0)) (hB : Hid (bits .or .u64 hi (lo / 18446744073709551616) = d1)) (hC : Hid (hi / 18446744073709551616 = d2)) (l0 : 0 ≤ lo) (l1 : lo < 18446744073709551616) (h0 : 0 ≤ hi) (h1 : hi < 18446744073709551616)
    (F : Hid (Calls Try.prog 33 #[.pointer (some ⟨g, o, none⟩), .slice (some ⟨w.heap.size, 0, none⟩) 3 3, .int .i64 q, .bool off] (w.alloc (.cells #[.int .u64 d0, .int .u64 d1, .int .u64 d2] 81)) fun e w' => e = .returned (.tuple #[]) ∧ Q w')) :
    Calls Try.prog 32 #[.pointer (some ⟨g, o, none⟩), .float .f64 x, .float .f64 y, .bool off] w fun e w' => e = .returned (.tuple #[]) ∧ Q w' := by
  go_enter Try.func32, Try.ntmps32
  go_wp2_with fail
  refine (P1.out _).mono ?_
  rintro e w' ⟨rfl, rfl⟩
  go_wp2_with fail
  refine (P2.out _).mono ?_
  rintro e w' ⟨rfl, rfl⟩
  go_wp2_with fail
  refine (P3.out _).mono ?_
  rintro e w' ⟨rfl, rfl⟩
  go_wp2_with fail
  rw [hB.out, hA.out, hC.out]
  refine F.out.mono ?_
  rintro e w' ⟨rfl, hQ⟩
  go_wp2
  go_end0
  exact ⟨rfl, hQ⟩

theorem dg0 (N : Int) : dg N 0 = N % 18446744073709551616 := by
  unfold dg
  rw [show ((2 ^ (64 * 0) : Nat) : Int) = 1 by decide, Int.ediv_one]
theorem dg1 (N : Int) : dg N 1 = N / 18446744073709551616 % 18446744073709551616 := by
  unfold dg
  rw [show ((2 ^ (64 * 1) : Nat) : Int) = 18446744073709551616 by decide]
theorem dg2 (N : Int) : dg N 2 = N / 18446744073709551616 / 18446744073709551616 % 18446744073709551616 := by
  unfold dg
  rw [show ((2 ^ (64 * 2) : Nat) : Int) = 18446744073709551616 * 18446744073709551616 by decide, Int.ediv_ediv_of_nonneg (by decide)]

/-- A PRODUCT ADDED, or taken off, where both floats are finite -/
theorem fprod_at (g o x y : Nat) (T : TypeId) (C : Array Value) (off : Bool) (V : Int) (w : World) (hx : x < 18446744073709551616) (hy : y < 18446744073709551616) (fx : mg x < 9218868437227405312) (fy : mg y < 9218868437227405312)
    (hg : w.heap[g]? = some (.cells (enW C o (dg V)) T)) (ho : o + 66 ≤ C.size) :
    Calls Try.prog 32 #[.pointer (some ⟨g, o, none⟩), .float .f64 x, .float .f64 y, .bool off] w fun e w' => e = .returned (.tuple #[]) ∧
      (Hid (w'.heap[g]? = some (.cells (enW C o (dg (if off then V - ((mv (mg x) * mv (mg y) : Nat) : Int) else V + ((mv (mg x) * mv (mg y) : Nat) : Int)))) T)) ∧
       Hid (∃ c, Only g (w.alloc c) w')) := by
  have km := wm_lt (mg x)
  have kn := wm_lt (mg y)
  have kj := wk_top _ fx
  have kk := wk_top _ fy
  have P1 : Hid (∀ w, Calls Try.prog 44 #[.float .f64 x] w fun r w' => r = .returned (.tuple #[.int .u64 ((wm (mg x) : Nat) : Int), .int .i64 ((wk (mg x) : Nat) : Int)]) ∧ w' = w) := fun w => parts_at x w hx fx
  have P2 : Hid (∀ w, Calls Try.prog 44 #[.float .f64 y] w fun r w' => r = .returned (.tuple #[.int .u64 ((wm (mg y) : Nat) : Int), .int .i64 ((wk (mg y) : Nat) : Int)]) ∧ w' = w) := fun w => parts_at y w hy fy
  have hQ : mv (mg x) * mv (mg y) = wm (mg x) * wm (mg y) * 2 ^ (wk (mg x) + wk (mg y)) := by
    rw [wm_wk, wm_wk, Nat.pow_add, Nat.mul_mul_mul_comm]
  rw [hQ]
  have hQlt : wm (mg x) * wm (mg y) < 9007199254740992 * 9007199254740992 := Nat.mul_lt_mul'' km kn
  have P3 : Hid (∀ w, Calls Try.prog 45 #[.int .u64 ((wm (mg x) : Nat) : Int), .int .u64 ((wm (mg y) : Nat) : Int)] w fun r w' => r = .returned (.tuple #[.int .u64 ((wm (mg x) * wm (mg y) / 18446744073709551616 : Nat) : Int), .int .u64 ((wm (mg x) * wm (mg y) % 18446744073709551616 : Nat) : Int)]) ∧ w' = w) := by
    intro w
    have := mul64_at ((wm (mg x) : Nat) : Int) ((wm (mg y) : Nat) : Int) w (by omega) (by omega) (by omega) (by omega)
    rw [← Int.natCast_mul] at this
    exact this
  generalize wm (mg x) = m at *
  generalize wm (mg y) = n at *
  generalize wk (mg x) = j at *
  generalize wk (mg y) = k at *
  obtain ⟨Q, hQe⟩ : ∃ Q, m * n = Q := ⟨_, rfl⟩
  rw [hQe] at hQlt P3 ⊢
  have hs : (j + k) % 64 < 64 := Nat.mod_lt _ (by decide)
  have hjk : j + k = (j + k) % 64 + 64 * ((j + k) / 64) := by omega
  have hqle : (j + k) / 64 ≤ 63 := by omega
  obtain ⟨s, hse⟩ : ∃ s, (j + k) % 64 = s := ⟨_, rfl⟩
  obtain ⟨q, hqe⟩ : ∃ s, (j + k) / 64 = s := ⟨_, rfl⟩
  have hPS : 2 ^ (64 - s) * 2 ^ s = 18446744073709551616 := by
    rw [← Nat.pow_add, show 64 - s + s = 64 by omega]
  obtain ⟨w0, w1, w2, w3, w4, w5⟩ := three_words Q (2 ^ s) (2 ^ (64 - s)) hPS (pow_pos _) (pow_pos _)
  have hNlt : Q * 2 ^ s < 2 ^ (64 * 3) := by
    have h1 : 2 ^ s ≤ 2 ^ 63 := Nat.pow_le_pow_right (by decide) (by omega)
    have h2 : Q * 2 ^ s ≤ Q * 2 ^ 63 := Nat.mul_le_mul_left Q h1
    have h3 : (2 : Nat) ^ 63 = 9223372036854775808 := by decide
    have h4 : (2 : Nat) ^ (64 * 3) = 6277101735386680763835789423207666416102355444464034512896 := by decide
    rw [h4]; rw [h3] at h2; omega
  have hval : Q * 2 ^ (j + k) = Q * 2 ^ s * 2 ^ (64 * q) := by rw [hjk, hse, hqe, Nat.pow_add, Nat.mul_assoc]
  rw [hval, Int.natCast_mul]
  have hgs := row_lt hg
  have F : Hid (Calls Try.prog 33 #[.pointer (some ⟨g, o, none⟩), .slice (some ⟨w.heap.size, 0, none⟩) 3 3, .int .i64 ((q : Nat) : Int), .bool off] (w.alloc (.cells #[.int .u64 (dg ((Q * 2 ^ s : Nat) : Int) 0), .int .u64 (dg ((Q * 2 ^ s : Nat) : Int) 1), .int .u64 (dg ((Q * 2 ^ s : Nat) : Int) 2)] 81)) fun e w' => e = .returned (.tuple #[]) ∧
      (Hid (w'.heap[g]? = some (.cells (enW C o (dg (if off then V - ((Q * 2 ^ s : Nat) : Int) * ((2 ^ (64 * q) : Nat) : Int) else V + ((Q * 2 ^ s : Nat) : Int) * ((2 ^ (64 * q) : Nat) : Int)))) T)) ∧ Hid (∃ c, Only g (w.alloc c) w'))) := by
    refine Calls.mono (fadd_at g o w.heap.size 0 3 q 3 T C off V ((Q * 2 ^ s : Nat) : Int) _ ?_ ho (by omega) (by omega) (by omega) (Or.inl ⟨by omega, ?_⟩)) ?_
    · rw [Below.heap_alloc _ _ _ hgs]; exact hg
    · intro k hk
      have : k = 0 ∨ k = 1 ∨ k = 2 := by omega
      rcases this with rfl | rfl | rfl <;> simp
    · rintro e w' ⟨h1, h2, h3⟩
      exact ⟨h1, h2, _, h3⟩
  have hd0 : ((Q % 18446744073709551616 * 2 ^ s % 18446744073709551616 : Nat) : Int) = dg ((Q * 2 ^ s : Nat) : Int) 0 := by rw [dg0, ← w0]; omega
  have hd1 : ((Q / 18446744073709551616 % 2 ^ (64 - s) * 2 ^ s + Q % 18446744073709551616 / 2 ^ (64 - s) : Nat) : Int) = dg ((Q * 2 ^ s : Nat) : Int) 1 := by rw [dg1, ← w4]; omega
  have hd2 : ((Q / 18446744073709551616 / 2 ^ (64 - s) : Nat) : Int) = dg ((Q * 2 ^ s : Nat) : Int) 2 := by
    rw [dg2, ← w5]
    have : Q * 2 ^ s / 18446744073709551616 / 18446744073709551616 < 18446744073709551616 := by
      rw [Nat.div_div_eq_div_mul]
      apply Nat.div_lt_of_lt_mul
      have h4 : (2 : Nat) ^ (64 * 3) = 18446744073709551616 * 18446744073709551616 * 18446744073709551616 := by decide
      rw [← h4]; exact hNlt
    generalize Q * 2 ^ s = N at *
    omega
  have hor := or_add _ _ s w2 w3
  rw [← w1] at hor
  by_cases c : s = 0
  · subst c
    refine fprod_go0 g o x y off _ _ _ _ _ _ ((q : Nat) : Int) _ _ _ w _ P1 P2 P3 (by omega) (by omega) (by omega) (by omega) (by omega) (by omega) ?_ ?_ ?_ (by omega) (by omega) (by omega) (by omega) F
    · show _ = _
      rw [← hd0]; omega
    · show bits _ _ _ _ = _
      rw [← hd1, ← w1, ← hor]
      congr 1
      omega
    · show _ / _ = _
      rw [← hd2]; omega
  · refine fprod_go g o x y off _ _ _ _ _ _ ((q : Nat) : Int) ((s : Nat) : Int) _ _ _ w _ P1 P2 P3 (by omega) (by omega) (by omega) (by omega) (by omega) (by omega) (by omega) (by omega) ?_ ?_ ?_ F
    · show IntKind.u64.wrap _ = _
      rw [u64wr, Int.toNat_natCast, ← hd0, two_pow_cast, ← Int.natCast_mul]
      generalize Q % 18446744073709551616 * 2 ^ s = z
      omega
    · show bits _ _ _ _ = _
      rw [← hd1, ← w1, ← hor, u64wr]
      have e1 : (64 - (s : Int)).toNat = 64 - s := by omega
      rw [e1, Int.toNat_natCast]
      congr 1
    · show _ / _ = _
      have e1 : (64 - (s : Int)).toNat = 64 - s := by omega
      rw [← hd2, e1]; simp
end Go.Proofs.Ytgbnabpbheebjaa
