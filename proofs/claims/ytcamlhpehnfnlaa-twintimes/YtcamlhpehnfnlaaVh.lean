/-
  Whether an exact product is equal to a sum: walks over the program.
-/
import Derived.Test.YtcamlhpehnfnlaaVf
namespace Go.Proofs.Ytcamlhpehnfnlaa
open Go.RowKit Tf
attribute [local go_sem] run_bits run_from raw_feq raw_fne raw_flt raw_fgt run_neg

/-- an addition to the first of two sides -/
theorem add_side (g h : Nat) (D B m q : Int) (w : World) (s : Sides g h D B w) (hB : B ≤ 1152921504606846976) (hm0 : 0 ≤ m) (hm : m < 18446744073709551616) (q0 : 0 ≤ q) (q1 : q < 4736) :
    Calls Try.prog 46 #[.pointer (some ⟨g, 0, none⟩), .int .u64 m, .int .i64 q] w fun e w' => e = .returned (.tuple #[]) ∧ Sides g h (D + m * ((2 ^ q.toNat : Nat) : Int)) (B + 8589934592) w' ∧ Two g h w w' := by
  obtain ⟨f, f', a, b, c, d, e⟩ := s.ex
  refine (wadd_at g f m q B w a d hB hm0 hm q0 q1).mono ?_
  rintro r w' ⟨he, f2, h1, h2, h3, h4⟩
  refine ⟨he, ⟨s.ne, f2, f', h1, ?_, ?_, h4, fun i => ?_⟩, h2.two1 h⟩
  · rw [h2.block h (fun x => s.ne x.symm)]; exact b
  · rw [h3]; omega
  · have := e i; omega
theorem prod4 (ma mb : Nat) (E : Nat) :
    ((ma % 134217728 * (mb % 134217728) : Nat) : Int) * ((2 ^ E : Nat) : Int) + ((ma / 134217728 * (mb % 134217728) : Nat) : Int) * ((2 ^ (E + 27) : Nat) : Int) + ((ma % 134217728 * (mb / 134217728) : Nat) : Int) * ((2 ^ (E + 27) : Nat) : Int) + ((ma / 134217728 * (mb / 134217728) : Nat) : Int) * ((2 ^ (E + 54) : Nat) : Int) = ((ma * mb : Nat) : Int) * ((2 ^ E : Nat) : Int) := by
  have h1 : ma = ma % 134217728 + ma / 134217728 * 134217728 := by omega
  have h2 : mb = mb % 134217728 + mb / 134217728 * 134217728 := by omega
  have h3 : ma * mb = (ma % 134217728 + ma / 134217728 * 134217728) * (mb % 134217728 + mb / 134217728 * 134217728) := by rw [← h1, ← h2]
  rw [h3, Nat.pow_add, Nat.pow_add]
  generalize ma % 134217728 = a0
  generalize ma / 134217728 = a1
  generalize mb % 134217728 = b0
  generalize mb / 134217728 = b1
  generalize 2 ^ E = P
  have e1 : (2 : Nat) ^ 27 = 134217728 := by decide
  have e2 : (2 : Nat) ^ 54 = 18014398509481984 := by decide
  rw [e1, e2]
  simp only [Int.natCast_mul, Int.natCast_add]
  have c1 : ((134217728 : Nat) : Int) = 134217728 := rfl
  have c2 : ((18014398509481984 : Nat) : Int) = 18014398509481984 := rfl
  rw [c1, c2]
  grind
theorem mul_lt54 (a b : Nat) (ha : a ≤ 134217728) (hb : b ≤ 134217728) : a * b ≤ 18014398509481984 := Nat.le_trans (Nat.mul_le_mul ha hb) (by decide)
theorem cnat {Ma Mb : Nat} : IntKind.u64.wrap ((Ma : Int) % 134217728 * ((Mb : Int) % 134217728)) = ((Ma % 134217728 * (Mb % 134217728) : Nat) : Int) := by
  have h := mul_lt54 (Ma % 134217728) (Mb % 134217728) (by omega) (by omega)
  have e : (Ma : Int) % 134217728 * ((Mb : Int) % 134217728) = ((Ma % 134217728 * (Mb % 134217728) : Nat) : Int) := by rw [Int.natCast_mul]; simp
  rw [e, u64wr]; omega
theorem cnat2 {Ma Mb : Nat} (hMa : Ma < 9007199254740992) : IntKind.u64.wrap ((Ma : Int) / 134217728 * ((Mb : Int) % 134217728)) = ((Ma / 134217728 * (Mb % 134217728) : Nat) : Int) := by
  have h := mul_lt54 (Ma / 134217728) (Mb % 134217728) (by omega) (by omega)
  have e : (Ma : Int) / 134217728 * ((Mb : Int) % 134217728) = ((Ma / 134217728 * (Mb % 134217728) : Nat) : Int) := by rw [Int.natCast_mul]; simp
  rw [e, u64wr]; omega
theorem cnat3 {Ma Mb : Nat} (hMb : Mb < 9007199254740992) : IntKind.u64.wrap ((Ma : Int) % 134217728 * ((Mb : Int) / 134217728)) = ((Ma % 134217728 * (Mb / 134217728) : Nat) : Int) := by
  have h := mul_lt54 (Ma % 134217728) (Mb / 134217728) (by omega) (by omega)
  have e : (Ma : Int) % 134217728 * ((Mb : Int) / 134217728) = ((Ma % 134217728 * (Mb / 134217728) : Nat) : Int) := by rw [Int.natCast_mul]; simp
  rw [e, u64wr]; omega
theorem cnat4 {Ma Mb : Nat} (hMa : Ma < 9007199254740992) (hMb : Mb < 9007199254740992) : IntKind.u64.wrap ((Ma : Int) / 134217728 * ((Mb : Int) / 134217728)) = ((Ma / 134217728 * (Mb / 134217728) : Nat) : Int) := by
  have h := mul_lt54 (Ma / 134217728) (Mb / 134217728) (by omega) (by omega)
  have e : (Ma : Int) / 134217728 * ((Mb : Int) / 134217728) = ((Ma / 134217728 * (Mb / 134217728) : Nat) : Int) := by rw [Int.natCast_mul]; simp
  rw [e, u64wr]; omega

set_option maxHeartbeats 2000000 in
theorem times_ff (a b p e : Nat) (Ma Mb Ea Eb c0 c1 c2 c3 : Int) (V : Int) (w : World)
    (PA : Hid (∀ w, Calls Try.prog 45 #[.float .f64 a] w fun e w' => e = .returned (.tuple #[.bool false, .int .u64 Ma, .int .i64 Ea]) ∧ w' = w))
    (PB : Hid (∀ w, Calls Try.prog 45 #[.float .f64 b] w fun e w' => e = .returned (.tuple #[.bool false, .int .u64 Mb, .int .i64 Eb]) ∧ w' = w))
    (m0 : 0 ≤ Ma) (m1 : Ma < 9007199254740992) (m2 : 0 ≤ Mb) (m3 : Mb < 9007199254740992) (q0 : 0 ≤ Ea) (q1 : Ea ≤ 2045) (q2 : 0 ≤ Eb) (q3 : Eb ≤ 2045)
    (h0 : IntKind.u64.wrap (Ma % 134217728 * (Mb % 134217728)) = c0) (h1 : IntKind.u64.wrap (Ma / 134217728 * (Mb % 134217728)) = c1) (h2 : IntKind.u64.wrap (Ma % 134217728 * (Mb / 134217728)) = c2) (h3 : IntKind.u64.wrap (Ma / 134217728 * (Mb / 134217728)) = c3)
    (k0 : 0 ≤ c0) (k1 : c0 < 18446744073709551616) (k2 : 0 ≤ c1) (k3 : c1 < 18446744073709551616) (k4 : 0 ≤ c2) (k5 : c2 < 18446744073709551616) (k6 : 0 ≤ c3) (k7 : c3 < 18446744073709551616)
    (hV : Hid (c0 * ((2 ^ (Ea + Eb).toNat : Nat) : Int) + c1 * ((2 ^ (Ea + Eb + 27).toNat : Nat) : Int) + c2 * ((2 ^ (Ea + Eb + 27).toNat : Nat) : Int) + c3 * ((2 ^ (Ea + Eb + 54).toNat : Nat) : Int) = V))
    (P3 : Hid (∀ g h D B w, Sides g h D B w → B ≤ 1152921504606846976 → Calls Try.prog 42 #[.pointer (some ⟨g, 0, none⟩), .pointer (some ⟨h, 0, none⟩), .float .f64 p] w fun r w' => r = .returned (.tuple #[]) ∧ Sides g h (D + sv p * ((2 ^ K : Nat) : Int)) (B + 8589934592) w' ∧ Two g h w w'))
    (P4 : Hid (∀ g h D B w, Sides g h D B w → B ≤ 1152921504606846976 → Calls Try.prog 42 #[.pointer (some ⟨g, 0, none⟩), .pointer (some ⟨h, 0, none⟩), .float .f64 e] w fun r w' => r = .returned (.tuple #[]) ∧ Sides g h (D + sv e * ((2 ^ K : Nat) : Int)) (B + 8589934592) w' ∧ Two g h w w'))
    (sum : Hid (V = sv p * ((2 ^ K : Nat) : Int) + sv e * ((2 ^ K : Nat) : Int))) :
    Calls Try.prog 27 #[.float .f64 a, .float .f64 b, .float .f64 p, .float .f64 e] w fun r w' => r = .returned (.bool true) ∧ Below w.heap.size w w' := by
  have hz := fun (w : World) => zero_words w
  have S0 := hid (sides_new w)
  have B0 := hid (below_new w (.cells (enc fun _ => 0) 50) (.cells (enc fun _ => 0) 50))
  have hgd := words_guard
  go_enter Try.func27, Try.ntmps27
  go_wp2_with fail
  refine (PA.out _).mono ?_
  rintro r w' ⟨rfl, rfl⟩
  go_wp2_with fail
  refine (PB.out _).mono ?_
  rintro r w' ⟨rfl, rfl⟩
  go_wp2_with fail
  refine (add_side w.heap.size (w.heap.size + 1) _ _ c0 (Ea + Eb) _ S0 (by omega) (by omega) (by omega) (by omega) (by omega)).mono ?_
  rintro r w1 ⟨rfl, s1, t1⟩
  have S1 := hid s1
  have B1 := hid (t1.below B0.out (by omega) (by omega))
  clear s1 t1 S0 B0 hz
  go_wp2_with fail
  refine (add_side w.heap.size (w.heap.size + 1) _ _ c1 (Ea + Eb + 27) _ S1 (by omega) (by omega) (by omega) (by omega) (by omega)).mono ?_
  rintro r w2 ⟨rfl, s2, t2⟩
  have S2 := hid s2
  have B2 := hid (t2.below B1.out (by omega) (by omega))
  clear s2 t2 S1 B1
  go_wp2_with fail
  refine (add_side w.heap.size (w.heap.size + 1) _ _ c2 (Ea + Eb + 27) _ S2 (by omega) (by omega) (by omega) (by omega) (by omega)).mono ?_
  rintro r w3 ⟨rfl, s3, t3⟩
  have S3 := hid s3
  have B3 := hid (t3.below B2.out (by omega) (by omega))
  clear s3 t3 S2 B2
  go_wp2_with fail
  refine (add_side w.heap.size (w.heap.size + 1) _ _ c3 (Ea + Eb + 54) _ S3 (by omega) (by omega) (by omega) (by omega) (by omega)).mono ?_
  rintro r w4 ⟨rfl, s4, t4⟩
  have S4 := hid s4
  have B4 := hid (t4.below B3.out (by omega) (by omega))
  clear s4 t4 S3 B3
  have S4' := hid S4.out.swap
  clear S4
  go_wp2_with fail
  refine (P3.out (w.heap.size + 1) w.heap.size _ _ _ S4'.out (by omega)).mono ?_
  rintro r w5 ⟨rfl, s5, t5⟩
  have S5 := hid s5
  have B5 := hid (t5.below B4.out (by omega) (by omega))
  clear s5 t5 S4' B4
  go_wp2_with fail
  refine (P4.out (w.heap.size + 1) w.heap.size _ _ _ S5.out (by omega)).mono ?_
  rintro r w6 ⟨rfl, s6, t6⟩
  have B6 := hid (t6.below B5.out (by omega) (by omega))
  clear t6 S5 B5 P3 P4
  obtain ⟨f, f', x1, x2, x3, x4, x5⟩ := s6.ex
  have hv : valN f' 150 = valN f 150 := by
    have g1 := sum.out
    have g2 := hV.out
    generalize c0 * ((2 ^ (Ea + Eb).toNat : Nat) : Int) = u0 at *
    generalize c1 * ((2 ^ (Ea + Eb + 27).toNat : Nat) : Int) = u1 at *
    generalize c2 * ((2 ^ (Ea + Eb + 27).toNat : Nat) : Int) = u2 at *
    generalize c3 * ((2 ^ (Ea + Eb + 54).toNat : Nat) : Int) = u3 at *
    generalize sv p * ((2 ^ K : Nat) : Int) = u4 at *
    generalize sv e * ((2 ^ K : Nat) : Int) = u5 at *
    omega
  have eqw := words_eq (dig (valN f 150))
  have C1 : Hid (Calls Try.prog 43 #[.pointer (some ⟨w.heap.size, 0, none⟩)] w6 fun r w' => r = .returned (.agg (enc (dig (valN f 150)))) ∧ Below w6.heap.size w6 w') :=
    carried_at _ f' _ w6 _ x2 x5 (by omega) hv
  have C2 : Hid (∀ w7, Below w6.heap.size w6 w7 → Calls Try.prog 43 #[.pointer (some ⟨w.heap.size + 1, 0, none⟩)] w7 fun r w' => r = .returned (.agg (enc (dig (valN f 150)))) ∧ Below w7.heap.size w7 w') := by
    intro w7 b7
    exact carried_at _ f _ w7 _ (by rw [b7.block _ (row_lt _ _ _ x1)]; exact x1) x4 (by omega) rfl
  clear x1 x2 x3 x4 x5 hv s6 sum hV
  generalize dig (valN f 150) = d at *
  go_wp2_with fail
  refine C1.out.mono ?_
  rintro r w7 ⟨rfl, b7⟩
  have B7 := hid b7
  clear b7
  go_wp2_with fail
  refine (C2.out w7 B7.out).mono ?_
  rintro r w8 ⟨rfl, b8⟩
  have B8 := hid b8
  clear b8 C1 C2
  go_wp2
  go_ret
  refine ⟨rfl, B6.out.trans ((B7.out.mono B6.out.size).trans (B8.out.mono (Nat.le_trans B6.out.size B7.out.size)))⟩

set_option maxHeartbeats 2000000 in
theorem times_tt (a b p e : Nat) (Ma Mb Ea Eb c0 c1 c2 c3 : Int) (V : Int) (w : World)
    (PA : Hid (∀ w, Calls Try.prog 45 #[.float .f64 a] w fun e w' => e = .returned (.tuple #[.bool true, .int .u64 Ma, .int .i64 Ea]) ∧ w' = w))
    (PB : Hid (∀ w, Calls Try.prog 45 #[.float .f64 b] w fun e w' => e = .returned (.tuple #[.bool true, .int .u64 Mb, .int .i64 Eb]) ∧ w' = w))
    (m0 : 0 ≤ Ma) (m1 : Ma < 9007199254740992) (m2 : 0 ≤ Mb) (m3 : Mb < 9007199254740992) (q0 : 0 ≤ Ea) (q1 : Ea ≤ 2045) (q2 : 0 ≤ Eb) (q3 : Eb ≤ 2045)
    (h0 : IntKind.u64.wrap (Ma % 134217728 * (Mb % 134217728)) = c0) (h1 : IntKind.u64.wrap (Ma / 134217728 * (Mb % 134217728)) = c1) (h2 : IntKind.u64.wrap (Ma % 134217728 * (Mb / 134217728)) = c2) (h3 : IntKind.u64.wrap (Ma / 134217728 * (Mb / 134217728)) = c3)
    (k0 : 0 ≤ c0) (k1 : c0 < 18446744073709551616) (k2 : 0 ≤ c1) (k3 : c1 < 18446744073709551616) (k4 : 0 ≤ c2) (k5 : c2 < 18446744073709551616) (k6 : 0 ≤ c3) (k7 : c3 < 18446744073709551616)
    (hV : Hid (c0 * ((2 ^ (Ea + Eb).toNat : Nat) : Int) + c1 * ((2 ^ (Ea + Eb + 27).toNat : Nat) : Int) + c2 * ((2 ^ (Ea + Eb + 27).toNat : Nat) : Int) + c3 * ((2 ^ (Ea + Eb + 54).toNat : Nat) : Int) = V))
    (P3 : Hid (∀ g h D B w, Sides g h D B w → B ≤ 1152921504606846976 → Calls Try.prog 42 #[.pointer (some ⟨g, 0, none⟩), .pointer (some ⟨h, 0, none⟩), .float .f64 p] w fun r w' => r = .returned (.tuple #[]) ∧ Sides g h (D + sv p * ((2 ^ K : Nat) : Int)) (B + 8589934592) w' ∧ Two g h w w'))
    (P4 : Hid (∀ g h D B w, Sides g h D B w → B ≤ 1152921504606846976 → Calls Try.prog 42 #[.pointer (some ⟨g, 0, none⟩), .pointer (some ⟨h, 0, none⟩), .float .f64 e] w fun r w' => r = .returned (.tuple #[]) ∧ Sides g h (D + sv e * ((2 ^ K : Nat) : Int)) (B + 8589934592) w' ∧ Two g h w w'))
    (sum : Hid (V = sv p * ((2 ^ K : Nat) : Int) + sv e * ((2 ^ K : Nat) : Int))) :
    Calls Try.prog 27 #[.float .f64 a, .float .f64 b, .float .f64 p, .float .f64 e] w fun r w' => r = .returned (.bool true) ∧ Below w.heap.size w w' := by
  have hz := fun (w : World) => zero_words w
  have S0 := hid (sides_new w)
  have B0 := hid (below_new w (.cells (enc fun _ => 0) 50) (.cells (enc fun _ => 0) 50))
  have hgd := words_guard
  go_enter Try.func27, Try.ntmps27
  go_wp2_with fail
  refine (PA.out _).mono ?_
  rintro r w' ⟨rfl, rfl⟩
  go_wp2_with fail
  refine (PB.out _).mono ?_
  rintro r w' ⟨rfl, rfl⟩
  go_wp2_with fail
  refine (add_side w.heap.size (w.heap.size + 1) _ _ c0 (Ea + Eb) _ S0 (by omega) (by omega) (by omega) (by omega) (by omega)).mono ?_
  rintro r w1 ⟨rfl, s1, t1⟩
  have S1 := hid s1
  have B1 := hid (t1.below B0.out (by omega) (by omega))
  clear s1 t1 S0 B0 hz
  go_wp2_with fail
  refine (add_side w.heap.size (w.heap.size + 1) _ _ c1 (Ea + Eb + 27) _ S1 (by omega) (by omega) (by omega) (by omega) (by omega)).mono ?_
  rintro r w2 ⟨rfl, s2, t2⟩
  have S2 := hid s2
  have B2 := hid (t2.below B1.out (by omega) (by omega))
  clear s2 t2 S1 B1
  go_wp2_with fail
  refine (add_side w.heap.size (w.heap.size + 1) _ _ c2 (Ea + Eb + 27) _ S2 (by omega) (by omega) (by omega) (by omega) (by omega)).mono ?_
  rintro r w3 ⟨rfl, s3, t3⟩
  have S3 := hid s3
  have B3 := hid (t3.below B2.out (by omega) (by omega))
  clear s3 t3 S2 B2
  go_wp2_with fail
  refine (add_side w.heap.size (w.heap.size + 1) _ _ c3 (Ea + Eb + 54) _ S3 (by omega) (by omega) (by omega) (by omega) (by omega)).mono ?_
  rintro r w4 ⟨rfl, s4, t4⟩
  have S4 := hid s4
  have B4 := hid (t4.below B3.out (by omega) (by omega))
  clear s4 t4 S3 B3
  have S4' := hid S4.out.swap
  clear S4
  go_wp2_with fail
  refine (P3.out (w.heap.size + 1) w.heap.size _ _ _ S4'.out (by omega)).mono ?_
  rintro r w5 ⟨rfl, s5, t5⟩
  have S5 := hid s5
  have B5 := hid (t5.below B4.out (by omega) (by omega))
  clear s5 t5 S4' B4
  go_wp2_with fail
  refine (P4.out (w.heap.size + 1) w.heap.size _ _ _ S5.out (by omega)).mono ?_
  rintro r w6 ⟨rfl, s6, t6⟩
  have B6 := hid (t6.below B5.out (by omega) (by omega))
  clear t6 S5 B5 P3 P4
  obtain ⟨f, f', x1, x2, x3, x4, x5⟩ := s6.ex
  have hv : valN f' 150 = valN f 150 := by
    have g1 := sum.out
    have g2 := hV.out
    generalize c0 * ((2 ^ (Ea + Eb).toNat : Nat) : Int) = u0 at *
    generalize c1 * ((2 ^ (Ea + Eb + 27).toNat : Nat) : Int) = u1 at *
    generalize c2 * ((2 ^ (Ea + Eb + 27).toNat : Nat) : Int) = u2 at *
    generalize c3 * ((2 ^ (Ea + Eb + 54).toNat : Nat) : Int) = u3 at *
    generalize sv p * ((2 ^ K : Nat) : Int) = u4 at *
    generalize sv e * ((2 ^ K : Nat) : Int) = u5 at *
    omega
  have eqw := words_eq (dig (valN f 150))
  have C1 : Hid (Calls Try.prog 43 #[.pointer (some ⟨w.heap.size, 0, none⟩)] w6 fun r w' => r = .returned (.agg (enc (dig (valN f 150)))) ∧ Below w6.heap.size w6 w') :=
    carried_at _ f' _ w6 _ x2 x5 (by omega) hv
  have C2 : Hid (∀ w7, Below w6.heap.size w6 w7 → Calls Try.prog 43 #[.pointer (some ⟨w.heap.size + 1, 0, none⟩)] w7 fun r w' => r = .returned (.agg (enc (dig (valN f 150)))) ∧ Below w7.heap.size w7 w') := by
    intro w7 b7
    exact carried_at _ f _ w7 _ (by rw [b7.block _ (row_lt _ _ _ x1)]; exact x1) x4 (by omega) rfl
  clear x1 x2 x3 x4 x5 hv s6 sum hV
  generalize dig (valN f 150) = d at *
  go_wp2_with fail
  refine C1.out.mono ?_
  rintro r w7 ⟨rfl, b7⟩
  have B7 := hid b7
  clear b7
  go_wp2_with fail
  refine (C2.out w7 B7.out).mono ?_
  rintro r w8 ⟨rfl, b8⟩
  have B8 := hid b8
  clear b8 C1 C2
  go_wp2
  go_ret
  refine ⟨rfl, B6.out.trans ((B7.out.mono B6.out.size).trans (B8.out.mono (Nat.le_trans B6.out.size B7.out.size)))⟩

set_option maxHeartbeats 2000000 in
theorem times_ft (a b p e : Nat) (Ma Mb Ea Eb c0 c1 c2 c3 : Int) (V : Int) (w : World)
    (PA : Hid (∀ w, Calls Try.prog 45 #[.float .f64 a] w fun e w' => e = .returned (.tuple #[.bool false, .int .u64 Ma, .int .i64 Ea]) ∧ w' = w))
    (PB : Hid (∀ w, Calls Try.prog 45 #[.float .f64 b] w fun e w' => e = .returned (.tuple #[.bool true, .int .u64 Mb, .int .i64 Eb]) ∧ w' = w))
    (m0 : 0 ≤ Ma) (m1 : Ma < 9007199254740992) (m2 : 0 ≤ Mb) (m3 : Mb < 9007199254740992) (q0 : 0 ≤ Ea) (q1 : Ea ≤ 2045) (q2 : 0 ≤ Eb) (q3 : Eb ≤ 2045)
    (h0 : IntKind.u64.wrap (Ma % 134217728 * (Mb % 134217728)) = c0) (h1 : IntKind.u64.wrap (Ma / 134217728 * (Mb % 134217728)) = c1) (h2 : IntKind.u64.wrap (Ma % 134217728 * (Mb / 134217728)) = c2) (h3 : IntKind.u64.wrap (Ma / 134217728 * (Mb / 134217728)) = c3)
    (k0 : 0 ≤ c0) (k1 : c0 < 18446744073709551616) (k2 : 0 ≤ c1) (k3 : c1 < 18446744073709551616) (k4 : 0 ≤ c2) (k5 : c2 < 18446744073709551616) (k6 : 0 ≤ c3) (k7 : c3 < 18446744073709551616)
    (hV : Hid (c0 * ((2 ^ (Ea + Eb).toNat : Nat) : Int) + c1 * ((2 ^ (Ea + Eb + 27).toNat : Nat) : Int) + c2 * ((2 ^ (Ea + Eb + 27).toNat : Nat) : Int) + c3 * ((2 ^ (Ea + Eb + 54).toNat : Nat) : Int) = V))
    (P3 : Hid (∀ g h D B w, Sides g h D B w → B ≤ 1152921504606846976 → Calls Try.prog 42 #[.pointer (some ⟨g, 0, none⟩), .pointer (some ⟨h, 0, none⟩), .float .f64 p] w fun r w' => r = .returned (.tuple #[]) ∧ Sides g h (D + sv p * ((2 ^ K : Nat) : Int)) (B + 8589934592) w' ∧ Two g h w w'))
    (P4 : Hid (∀ g h D B w, Sides g h D B w → B ≤ 1152921504606846976 → Calls Try.prog 42 #[.pointer (some ⟨g, 0, none⟩), .pointer (some ⟨h, 0, none⟩), .float .f64 e] w fun r w' => r = .returned (.tuple #[]) ∧ Sides g h (D + sv e * ((2 ^ K : Nat) : Int)) (B + 8589934592) w' ∧ Two g h w w'))
    (sum : Hid (-V = sv p * ((2 ^ K : Nat) : Int) + sv e * ((2 ^ K : Nat) : Int))) :
    Calls Try.prog 27 #[.float .f64 a, .float .f64 b, .float .f64 p, .float .f64 e] w fun r w' => r = .returned (.bool true) ∧ Below w.heap.size w w' := by
  have hz := fun (w : World) => zero_words w
  have S0 := hid (sides_new w).swap
  have B0 := hid (below_new w (.cells (enc fun _ => 0) 50) (.cells (enc fun _ => 0) 50))
  have hgd := words_guard
  go_enter Try.func27, Try.ntmps27
  go_wp2_with fail
  refine (PA.out _).mono ?_
  rintro r w' ⟨rfl, rfl⟩
  go_wp2_with fail
  refine (PB.out _).mono ?_
  rintro r w' ⟨rfl, rfl⟩
  go_wp2_with fail
  refine (add_side (w.heap.size + 1) w.heap.size _ _ c0 (Ea + Eb) _ S0 (by omega) (by omega) (by omega) (by omega) (by omega)).mono ?_
  rintro r w1 ⟨rfl, s1, t1⟩
  have S1 := hid s1
  have B1 := hid (t1.below B0.out (by omega) (by omega))
  clear s1 t1 S0 B0 hz
  go_wp2_with fail
  refine (add_side (w.heap.size + 1) w.heap.size _ _ c1 (Ea + Eb + 27) _ S1 (by omega) (by omega) (by omega) (by omega) (by omega)).mono ?_
  rintro r w2 ⟨rfl, s2, t2⟩
  have S2 := hid s2
  have B2 := hid (t2.below B1.out (by omega) (by omega))
  clear s2 t2 S1 B1
  go_wp2_with fail
  refine (add_side (w.heap.size + 1) w.heap.size _ _ c2 (Ea + Eb + 27) _ S2 (by omega) (by omega) (by omega) (by omega) (by omega)).mono ?_
  rintro r w3 ⟨rfl, s3, t3⟩
  have S3 := hid s3
  have B3 := hid (t3.below B2.out (by omega) (by omega))
  clear s3 t3 S2 B2
  go_wp2_with fail
  refine (add_side (w.heap.size + 1) w.heap.size _ _ c3 (Ea + Eb + 54) _ S3 (by omega) (by omega) (by omega) (by omega) (by omega)).mono ?_
  rintro r w4 ⟨rfl, s4, t4⟩
  have S4 := hid s4
  have B4 := hid (t4.below B3.out (by omega) (by omega))
  clear s4 t4 S3 B3
  have S4' := hid S4.out
  clear S4
  go_wp2_with fail
  refine (P3.out (w.heap.size + 1) w.heap.size _ _ _ S4'.out (by omega)).mono ?_
  rintro r w5 ⟨rfl, s5, t5⟩
  have S5 := hid s5
  have B5 := hid (t5.below B4.out (by omega) (by omega))
  clear s5 t5 S4' B4
  go_wp2_with fail
  refine (P4.out (w.heap.size + 1) w.heap.size _ _ _ S5.out (by omega)).mono ?_
  rintro r w6 ⟨rfl, s6, t6⟩
  have B6 := hid (t6.below B5.out (by omega) (by omega))
  clear t6 S5 B5 P3 P4
  obtain ⟨f, f', x1, x2, x3, x4, x5⟩ := s6.ex
  have hv : valN f' 150 = valN f 150 := by
    have g1 := sum.out
    have g2 := hV.out
    generalize c0 * ((2 ^ (Ea + Eb).toNat : Nat) : Int) = u0 at *
    generalize c1 * ((2 ^ (Ea + Eb + 27).toNat : Nat) : Int) = u1 at *
    generalize c2 * ((2 ^ (Ea + Eb + 27).toNat : Nat) : Int) = u2 at *
    generalize c3 * ((2 ^ (Ea + Eb + 54).toNat : Nat) : Int) = u3 at *
    generalize sv p * ((2 ^ K : Nat) : Int) = u4 at *
    generalize sv e * ((2 ^ K : Nat) : Int) = u5 at *
    omega
  have eqw := words_eq (dig (valN f 150))
  have C1 : Hid (Calls Try.prog 43 #[.pointer (some ⟨w.heap.size, 0, none⟩)] w6 fun r w' => r = .returned (.agg (enc (dig (valN f 150)))) ∧ Below w6.heap.size w6 w') :=
    carried_at _ f' _ w6 _ x2 x5 (by omega) hv
  have C2 : Hid (∀ w7, Below w6.heap.size w6 w7 → Calls Try.prog 43 #[.pointer (some ⟨w.heap.size + 1, 0, none⟩)] w7 fun r w' => r = .returned (.agg (enc (dig (valN f 150)))) ∧ Below w7.heap.size w7 w') := by
    intro w7 b7
    exact carried_at _ f _ w7 _ (by rw [b7.block _ (row_lt _ _ _ x1)]; exact x1) x4 (by omega) rfl
  clear x1 x2 x3 x4 x5 hv s6 sum hV
  generalize dig (valN f 150) = d at *
  go_wp2_with fail
  refine C1.out.mono ?_
  rintro r w7 ⟨rfl, b7⟩
  have B7 := hid b7
  clear b7
  go_wp2_with fail
  refine (C2.out w7 B7.out).mono ?_
  rintro r w8 ⟨rfl, b8⟩
  have B8 := hid b8
  clear b8 C1 C2
  go_wp2
  go_ret
  refine ⟨rfl, B6.out.trans ((B7.out.mono B6.out.size).trans (B8.out.mono (Nat.le_trans B6.out.size B7.out.size)))⟩

set_option maxHeartbeats 2000000 in
theorem times_tf (a b p e : Nat) (Ma Mb Ea Eb c0 c1 c2 c3 : Int) (V : Int) (w : World)
    (PA : Hid (∀ w, Calls Try.prog 45 #[.float .f64 a] w fun e w' => e = .returned (.tuple #[.bool true, .int .u64 Ma, .int .i64 Ea]) ∧ w' = w))
    (PB : Hid (∀ w, Calls Try.prog 45 #[.float .f64 b] w fun e w' => e = .returned (.tuple #[.bool false, .int .u64 Mb, .int .i64 Eb]) ∧ w' = w))
    (m0 : 0 ≤ Ma) (m1 : Ma < 9007199254740992) (m2 : 0 ≤ Mb) (m3 : Mb < 9007199254740992) (q0 : 0 ≤ Ea) (q1 : Ea ≤ 2045) (q2 : 0 ≤ Eb) (q3 : Eb ≤ 2045)
    (h0 : IntKind.u64.wrap (Ma % 134217728 * (Mb % 134217728)) = c0) (h1 : IntKind.u64.wrap (Ma / 134217728 * (Mb % 134217728)) = c1) (h2 : IntKind.u64.wrap (Ma % 134217728 * (Mb / 134217728)) = c2) (h3 : IntKind.u64.wrap (Ma / 134217728 * (Mb / 134217728)) = c3)
    (k0 : 0 ≤ c0) (k1 : c0 < 18446744073709551616) (k2 : 0 ≤ c1) (k3 : c1 < 18446744073709551616) (k4 : 0 ≤ c2) (k5 : c2 < 18446744073709551616) (k6 : 0 ≤ c3) (k7 : c3 < 18446744073709551616)
    (hV : Hid (c0 * ((2 ^ (Ea + Eb).toNat : Nat) : Int) + c1 * ((2 ^ (Ea + Eb + 27).toNat : Nat) : Int) + c2 * ((2 ^ (Ea + Eb + 27).toNat : Nat) : Int) + c3 * ((2 ^ (Ea + Eb + 54).toNat : Nat) : Int) = V))
    (P3 : Hid (∀ g h D B w, Sides g h D B w → B ≤ 1152921504606846976 → Calls Try.prog 42 #[.pointer (some ⟨g, 0, none⟩), .pointer (some ⟨h, 0, none⟩), .float .f64 p] w fun r w' => r = .returned (.tuple #[]) ∧ Sides g h (D + sv p * ((2 ^ K : Nat) : Int)) (B + 8589934592) w' ∧ Two g h w w'))
    (P4 : Hid (∀ g h D B w, Sides g h D B w → B ≤ 1152921504606846976 → Calls Try.prog 42 #[.pointer (some ⟨g, 0, none⟩), .pointer (some ⟨h, 0, none⟩), .float .f64 e] w fun r w' => r = .returned (.tuple #[]) ∧ Sides g h (D + sv e * ((2 ^ K : Nat) : Int)) (B + 8589934592) w' ∧ Two g h w w'))
    (sum : Hid (-V = sv p * ((2 ^ K : Nat) : Int) + sv e * ((2 ^ K : Nat) : Int))) :
    Calls Try.prog 27 #[.float .f64 a, .float .f64 b, .float .f64 p, .float .f64 e] w fun r w' => r = .returned (.bool true) ∧ Below w.heap.size w w' := by
  have hz := fun (w : World) => zero_words w
  have S0 := hid (sides_new w).swap
  have B0 := hid (below_new w (.cells (enc fun _ => 0) 50) (.cells (enc fun _ => 0) 50))
  have hgd := words_guard
  go_enter Try.func27, Try.ntmps27
  go_wp2_with fail
  refine (PA.out _).mono ?_
  rintro r w' ⟨rfl, rfl⟩
  go_wp2_with fail
  refine (PB.out _).mono ?_
  rintro r w' ⟨rfl, rfl⟩
  go_wp2_with fail
  refine (add_side (w.heap.size + 1) w.heap.size _ _ c0 (Ea + Eb) _ S0 (by omega) (by omega) (by omega) (by omega) (by omega)).mono ?_
  rintro r w1 ⟨rfl, s1, t1⟩
  have S1 := hid s1
  have B1 := hid (t1.below B0.out (by omega) (by omega))
  clear s1 t1 S0 B0 hz
  go_wp2_with fail
  refine (add_side (w.heap.size + 1) w.heap.size _ _ c1 (Ea + Eb + 27) _ S1 (by omega) (by omega) (by omega) (by omega) (by omega)).mono ?_
  rintro r w2 ⟨rfl, s2, t2⟩
  have S2 := hid s2
  have B2 := hid (t2.below B1.out (by omega) (by omega))
  clear s2 t2 S1 B1
  go_wp2_with fail
  refine (add_side (w.heap.size + 1) w.heap.size _ _ c2 (Ea + Eb + 27) _ S2 (by omega) (by omega) (by omega) (by omega) (by omega)).mono ?_
  rintro r w3 ⟨rfl, s3, t3⟩
  have S3 := hid s3
  have B3 := hid (t3.below B2.out (by omega) (by omega))
  clear s3 t3 S2 B2
  go_wp2_with fail
  refine (add_side (w.heap.size + 1) w.heap.size _ _ c3 (Ea + Eb + 54) _ S3 (by omega) (by omega) (by omega) (by omega) (by omega)).mono ?_
  rintro r w4 ⟨rfl, s4, t4⟩
  have S4 := hid s4
  have B4 := hid (t4.below B3.out (by omega) (by omega))
  clear s4 t4 S3 B3
  have S4' := hid S4.out
  clear S4
  go_wp2_with fail
  refine (P3.out (w.heap.size + 1) w.heap.size _ _ _ S4'.out (by omega)).mono ?_
  rintro r w5 ⟨rfl, s5, t5⟩
  have S5 := hid s5
  have B5 := hid (t5.below B4.out (by omega) (by omega))
  clear s5 t5 S4' B4
  go_wp2_with fail
  refine (P4.out (w.heap.size + 1) w.heap.size _ _ _ S5.out (by omega)).mono ?_
  rintro r w6 ⟨rfl, s6, t6⟩
  have B6 := hid (t6.below B5.out (by omega) (by omega))
  clear t6 S5 B5 P3 P4
  obtain ⟨f, f', x1, x2, x3, x4, x5⟩ := s6.ex
  have hv : valN f' 150 = valN f 150 := by
    have g1 := sum.out
    have g2 := hV.out
    generalize c0 * ((2 ^ (Ea + Eb).toNat : Nat) : Int) = u0 at *
    generalize c1 * ((2 ^ (Ea + Eb + 27).toNat : Nat) : Int) = u1 at *
    generalize c2 * ((2 ^ (Ea + Eb + 27).toNat : Nat) : Int) = u2 at *
    generalize c3 * ((2 ^ (Ea + Eb + 54).toNat : Nat) : Int) = u3 at *
    generalize sv p * ((2 ^ K : Nat) : Int) = u4 at *
    generalize sv e * ((2 ^ K : Nat) : Int) = u5 at *
    omega
  have eqw := words_eq (dig (valN f 150))
  have C1 : Hid (Calls Try.prog 43 #[.pointer (some ⟨w.heap.size, 0, none⟩)] w6 fun r w' => r = .returned (.agg (enc (dig (valN f 150)))) ∧ Below w6.heap.size w6 w') :=
    carried_at _ f' _ w6 _ x2 x5 (by omega) hv
  have C2 : Hid (∀ w7, Below w6.heap.size w6 w7 → Calls Try.prog 43 #[.pointer (some ⟨w.heap.size + 1, 0, none⟩)] w7 fun r w' => r = .returned (.agg (enc (dig (valN f 150)))) ∧ Below w7.heap.size w7 w') := by
    intro w7 b7
    exact carried_at _ f _ w7 _ (by rw [b7.block _ (row_lt _ _ _ x1)]; exact x1) x4 (by omega) rfl
  clear x1 x2 x3 x4 x5 hv s6 sum hV
  generalize dig (valN f 150) = d at *
  go_wp2_with fail
  refine C1.out.mono ?_
  rintro r w7 ⟨rfl, b7⟩
  have B7 := hid b7
  clear b7
  go_wp2_with fail
  refine (C2.out w7 B7.out).mono ?_
  rintro r w8 ⟨rfl, b8⟩
  have B8 := hid b8
  clear b8 C1 C2
  go_wp2
  go_ret
  refine ⟨rfl, B6.out.trans ((B7.out.mono B6.out.size).trans (B8.out.mono (Nat.le_trans B6.out.size B7.out.size)))⟩

/-- TIMES, where the product is the sum -/
theorem times_at (a b p e : Nat) (w : World) (ha : a < 18446744073709551616) (hb : b < 18446744073709551616) (hp : p < 18446744073709551616) (he : e < 18446744073709551616)
    (fa : mg a < 9218868437227405312) (fb : mg b < 9218868437227405312) (fp : mg p < 9218868437227405312) (fe : mg e < 9218868437227405312) (sum : sv a * sv b = (sv p + sv e) * ((2 ^ K : Nat) : Int)) :
    Calls Try.prog 27 #[.float .f64 a, .float .f64 b, .float .f64 p, .float .f64 e] w fun r w' => r = .returned (.bool true) ∧ Below w.heap.size w w' := by
  have P3 := hid (fun g h D B w x y => put_at p g h D B w hp fp x y)
  have P4 := hid (fun g h D B w x y => put_at e g h D B w he fe x y)
  have ka := wm_lt (mg a)
  have kb := wm_lt (mg b)
  have ea := wk_top _ fa
  have eb := wk_top _ fb
  have c0 := @cnat (wm (mg a)) (wm (mg b))
  have c1 := @cnat2 (wm (mg a)) (wm (mg b)) ka
  have c2 := @cnat3 (wm (mg a)) (wm (mg b)) kb
  have c3 := @cnat4 (wm (mg a)) (wm (mg b)) ka kb
  have l0 := mul_lt54 (wm (mg a) % 134217728) (wm (mg b) % 134217728) (by omega) (by omega)
  have l1 := mul_lt54 (wm (mg a) / 134217728) (wm (mg b) % 134217728) (by omega) (by omega)
  have l2 := mul_lt54 (wm (mg a) % 134217728) (wm (mg b) / 134217728) (by omega) (by omega)
  have l3 := mul_lt54 (wm (mg a) / 134217728) (wm (mg b) / 134217728) (by omega) (by omega)
  have p4 := prod4 (wm (mg a)) (wm (mg b)) (wk (mg a) + wk (mg b))
  have n0 : (((wk (mg a) : Nat) : Int) + ((wk (mg b) : Nat) : Int)).toNat = wk (mg a) + wk (mg b) := by omega
  have n1 : (((wk (mg a) : Nat) : Int) + ((wk (mg b) : Nat) : Int) + 27).toNat = wk (mg a) + wk (mg b) + 27 := by omega
  have n2 : (((wk (mg a) : Nat) : Int) + ((wk (mg b) : Nat) : Int) + 54).toNat = wk (mg a) + wk (mg b) + 54 := by omega
  rw [← n1, ← n2, ← n0] at p4
  have eV : ((wm (mg a) * wm (mg b) : Nat) : Int) * ((2 ^ (((wk (mg a) : Nat) : Int) + ((wk (mg b) : Nat) : Int)).toNat : Nat) : Int) = ((mv (mg a) : Nat) : Int) * ((mv (mg b) : Nat) : Int) := by
    rw [n0, ← Int.natCast_mul, ← Int.natCast_mul, wm_wk, wm_wk, Nat.pow_add]
    congr 1
    generalize 2 ^ wk (mg a) = x
    generalize 2 ^ wk (mg b) = y
    ac_rfl
  rw [eV] at p4
  rw [Int.add_mul] at sum
  have A : ∀ z, ng a = z → Hid (∀ w, Calls Try.prog 45 #[.float .f64 a] w fun e w' => e = .returned (.tuple #[.bool z, .int .u64 ((wm (mg a) : Nat) : Int), .int .i64 ((wk (mg a) : Nat) : Int)]) ∧ w' = w) := fun z hz w => lparts_at a z _ _ w ha fa hz rfl rfl
  have B : ∀ z, ng b = z → Hid (∀ w, Calls Try.prog 45 #[.float .f64 b] w fun e w' => e = .returned (.tuple #[.bool z, .int .u64 ((wm (mg b) : Nat) : Int), .int .i64 ((wk (mg b) : Nat) : Int)]) ∧ w' = w) := fun z hz w => lparts_at b z _ _ w hb fb hz rfl rfl
  have hsa : sv a = if ng a then -((mv (mg a) : Nat) : Int) else ((mv (mg a) : Nat) : Int) := rfl
  have hsb : sv b = if ng b then -((mv (mg b) : Nat) : Int) else ((mv (mg b) : Nat) : Int) := rfl
  cases za : ng a
  · cases zb : ng b
    · rw [za, if_neg (by decide)] at hsa
      rw [zb, if_neg (by decide)] at hsb
      exact times_ff a b p e _ _ _ _ _ _ _ _ _ w (A _ za) (B _ zb) (by omega) (by omega) (by omega) (by omega) (by omega) (by omega) (by omega) (by omega) c0 c1 c2 c3 (by omega) (by omega) (by omega) (by omega) (by omega) (by omega) (by omega) (by omega) p4 P3 P4 (by rw [← hsa, ← hsb]; exact sum)
    · rw [za, if_neg (by decide)] at hsa
      rw [zb, if_pos rfl] at hsb
      exact times_ft a b p e _ _ _ _ _ _ _ _ _ w (A _ za) (B _ zb) (by omega) (by omega) (by omega) (by omega) (by omega) (by omega) (by omega) (by omega) c0 c1 c2 c3 (by omega) (by omega) (by omega) (by omega) (by omega) (by omega) (by omega) (by omega) p4 P3 P4 (by rw [← Int.mul_neg, ← hsa, ← hsb]; exact sum)
  · cases zb : ng b
    · rw [za, if_pos rfl] at hsa
      rw [zb, if_neg (by decide)] at hsb
      exact times_tf a b p e _ _ _ _ _ _ _ _ _ w (A _ za) (B _ zb) (by omega) (by omega) (by omega) (by omega) (by omega) (by omega) (by omega) (by omega) c0 c1 c2 c3 (by omega) (by omega) (by omega) (by omega) (by omega) (by omega) (by omega) (by omega) p4 P3 P4 (by rw [← Int.neg_mul, ← hsa, ← hsb]; exact sum)
    · rw [za, if_pos rfl] at hsa
      rw [zb, if_pos rfl] at hsb
      exact times_tt a b p e _ _ _ _ _ _ _ _ _ w (A _ za) (B _ zb) (by omega) (by omega) (by omega) (by omega) (by omega) (by omega) (by omega) (by omega) c0 c1 c2 c3 (by omega) (by omega) (by omega) (by omega) (by omega) (by omega) (by omega) (by omega) p4 P3 P4 (by rw [← Int.neg_mul_neg, ← hsa, ← hsb]; exact sum)
end Go.Proofs.Ytcamlhpehnfnlaa
