/-
  Some of the texts of this proof, one behind the other.
-/
import Derived.Test.YtnklgfmemelcpaaGreatDoorZ18
import Derived.Test.YtnklgfmemelcpaaGreatDoorZ16
import Derived.Test.YtnklgfmemelcpaaGreatDoorZ09
/-
  FromInt, To32, To16, From32 and From16 of the reference of layer 2 answer what the code's do: walks over the program.
-/
namespace Go.Proofs.YtnklgfmemelcpaaGreatDoor.Ref2
open Go.RowKit Tf
attribute [local go_sem] run_bits run_from raw_feq raw_fne raw_flt raw_fgt run_neg

theorem rung_units (p m : Nat) (e least : Int) (he : -1074 ≤ e) (hl : -1074 ≤ least) : rung p (least + 1074).toNat (m * 2 ^ (e + 1074).toNat) = rung p (least - e).toNat (m * 2 ^ (e - least).toNat) := by
  obtain ⟨c, hc⟩ : ∃ c : Nat, min e least + 1074 = (c : Int) := ⟨(min e least + 1074).toNat, by omega⟩
  have h1 : (least + 1074).toNat = (least - e).toNat + c := by omega
  have h2 : (e + 1074).toNat = (e - least).toNat + c := by omega
  rw [h1, h2, Nat.pow_add, ← Nat.mul_assoc, rung_scale]

theorem small52 (m : Nat) (e : Int) (r : Nat) (w : World) (hm : m ≤ 9223372036854775808) (e0 : -1074 ≤ e) (e1 : e ≤ 900) (hr : min (rung 52 0 (m * 2 ^ (e + 1074).toNat)) 9218868437227405312 = r) :
    Calls Tryz.prog 133 #[.int .u64 (m : Nat), .int .i64 e, .int .i64 52, .int .i64 (-1074), .int .u64 9218868437227405312] w fun e w' => e = .returned (.int .u64 (r : Nat)) ∧ w' = w := by
  refine small_at m 52 9218868437227405312 e (-1074) r w hm (.inr e0) (by decide) (by omega) (by omega) (by decide) (by decide) (fun u hu => by omega) ?_
  have h1 : ((-1074 : Int) - e).toNat = 0 := by omega
  have h2 : (e - (-1074)).toNat = (e + 1074).toNat := by omega
  rw [h1, h2]; exact hr
theorem small23 (m : Nat) (e : Int) (r : Nat) (w : World) (hm : m < 9007199254740992) (e0 : -1074 ≤ e) (e1 : e ≤ 971) (hr : min (rung 23 K2 (m * 2 ^ (e + 1074).toNat)) 2139095040 = r) :
    Calls Tryz.prog 133 #[.int .u64 (m : Nat), .int .i64 e, .int .i64 23, .int .i64 (-149), .int .u64 2139095040] w fun e w' => e = .returned (.int .u64 (r : Nat)) ∧ w' = w := by
  refine small_at m 23 2139095040 e (-149) r w (by omega) (.inl (by omega)) (by decide) (by omega) (by omega) (by decide) (by decide) (fun u hu => by omega) ?_
  have h := rung_units 23 m e (-149) e0 (by decide)
  have h1 : ((-149 : Int) + 1074).toNat = K2 := by rw [K2_eq]; decide
  rw [h1] at h
  rw [← h]; exact hr
theorem small10 (m : Nat) (e : Int) (r : Nat) (w : World) (hm : m < 9007199254740992) (e0 : -1074 ≤ e) (e1 : e ≤ 971) (hr : min (rung 10 H2 (m * 2 ^ (e + 1074).toNat)) 31744 = r) :
    Calls Tryz.prog 133 #[.int .u64 (m : Nat), .int .i64 e, .int .i64 10, .int .i64 (-24), .int .u64 31744] w fun e w' => e = .returned (.int .u64 (r : Nat)) ∧ w' = w := by
  refine small_at m 10 31744 e (-24) r w (by omega) (.inl (by omega)) (by decide) (by omega) (by omega) (by decide) (by decide) (fun u hu => by omega) ?_
  have h := rung_units 10 m e (-24) e0 (by decide)
  have h1 : ((-24 : Int) + 1074).toNat = H2 := by rw [H2_eq]; decide
  rw [h1] at h
  rw [← h]; exact hr

set_option maxHeartbeats 1000000 in
theorem fi_pos (i : Int) (m r : Nat) (w : World) (h : ¬ i < 0) (hi : IntKind.u64.wrap i = (m : Int)) (hw : IntKind.u64.wrap (r : Int) = (r : Int)) (S : Hid (∀ w, Calls Tryz.prog 133 #[.int .u64 (m : Nat), .int .i64 0, .int .i64 52, .int .i64 (-1074), .int .u64 9218868437227405312] w fun e w' => e = .returned (.int .u64 (r : Nat)) ∧ w' = w)) :
    Calls Tryz.prog 116 #[.int .i64 i] w fun e w' => e = .returned (.float .f64 r) ∧ w' = w := by
  go_enter Tryz.func116, Tryz.ntmps116
  go_wp2_with fail
  refine (S.out _).mono ?_
  rintro e w' ⟨rfl, rfl⟩
  go_wp2_with fail
  refine (from_at (r : Int) r _ (by omega)).mono ?_
  rintro e w' ⟨rfl, rfl⟩
  go_wp2
  go_ret
  exact ⟨rfl, rfl⟩

set_option maxHeartbeats 1000000 in
theorem fi_neg (i : Int) (a m r s : Nat) (w : World) (h : i < 0) (hi : IntKind.u64.wrap i = (a : Int)) (ha : IntKind.u64.wrap (-(a : Int)) = (m : Int)) (hw : IntKind.u64.wrap (9223372036854775808 + (r : Int)) = (s : Int)) (S : Hid (∀ w, Calls Tryz.prog 133 #[.int .u64 (m : Nat), .int .i64 0, .int .i64 52, .int .i64 (-1074), .int .u64 9218868437227405312] w fun e w' => e = .returned (.int .u64 (r : Nat)) ∧ w' = w)) :
    Calls Tryz.prog 116 #[.int .i64 i] w fun e w' => e = .returned (.float .f64 s) ∧ w' = w := by
  go_enter Tryz.func116, Tryz.ntmps116
  go_wp2_with fail
  refine (S.out _).mono ?_
  rintro e w' ⟨rfl, rfl⟩
  go_wp2_with fail
  refine (from_at (s : Int) s _ (by omega)).mono ?_
  rintro e w' ⟨rfl, rfl⟩
  go_wp2
  go_ret
  exact ⟨rfl, rfl⟩

theorem refFromInt_at (i : Int) (r : Nat) (w : World) (i0 : -9223372036854775808 ≤ i) (i1 : i ≤ 9223372036854775807) (hr : rn false (i * one) = r) :
    Calls Tryz.prog 116 #[.int .i64 i] w fun e w' => e = .returned (.float .f64 r) ∧ w' = w := by
  have hK : (1074 : Nat) = K := rfl
  have hab : (i * (one : Int)).natAbs = i.natAbs * one := by rw [Int.natAbs_mul, Int.natAbs_natCast]
  have ho : ((0 : Int) + 1074).toNat = K := by rw [K_eq]; decide
  have hs := fun w => small52 i.natAbs 0 _ w (by omega) (by decide) (by decide) rfl
  rw [ho, ← one_pow] at hs
  have hlt : min (rung 52 0 (i.natAbs * one)) 9218868437227405312 ≤ 9218868437227405312 := Nat.min_le_right _ _
  have hp := onep
  have hrn : rn false (i * one) = if i < 0 then 9223372036854775808 + min (rung 52 0 (i.natAbs * one)) 9218868437227405312 else min (rung 52 0 (i.natAbs * one)) 9218868437227405312 := by
    unfold rn
    rw [hab]
    have h2 : (if i * (one : Int) = 0 then false else decide (i * (one : Int) < 0)) = decide (i < 0) := by
      by_cases c : i = 0
      · subst c; simp
      · have c' : ¬ i * (one : Int) = 0 := by rw [Int.mul_eq_zero]; omega
        rw [if_neg c']
        have : i * (one : Int) < 0 ↔ i < 0 := by
          have : i * (one : Int) < 0 * (one : Int) ↔ i < 0 := Int.mul_lt_mul_right hp
          rwa [Int.zero_mul] at this
        exact decide_eq_decide.2 this
    rw [h2]
    by_cases c : i < 0
    · rw [decide_eq_true c, if_pos rfl, if_pos c]
    · rw [decide_eq_false c, if_neg (by decide), if_neg c]
  rw [hrn] at hr
  generalize min (rung 52 0 (i.natAbs * one)) 9218868437227405312 = q at *
  by_cases c : i < 0
  · rw [if_pos c] at hr
    subst hr
    have w1 : IntKind.u64.wrap i = ((18446744073709551616 - i.natAbs : Nat) : Int) := by
      simp [IntKind.wrap, IntKind.bits, IntKind.signed]; omega
    have w2 : IntKind.u64.wrap (-((18446744073709551616 - i.natAbs : Nat) : Int)) = (i.natAbs : Int) := by
      simp [IntKind.wrap, IntKind.bits, IntKind.signed]; omega
    exact fi_neg i _ _ q (9223372036854775808 + q) w c w1 w2 (by rw [wrap_id] <;> omega) hs
  · rw [if_neg c] at hr
    subst hr
    exact fi_pos i i.natAbs q w c (by rw [wrap_id] <;> omega) (by rw [wrap_id] <;> omega) hs
end Go.Proofs.YtnklgfmemelcpaaGreatDoor.Ref2

/-
  The reference's points, corners and middles: walks over it.
-/
namespace Go.Proofs.YtnklgfmemelcpaaGreatDoor
open Go.RowKit Tf Cu
attribute [local go_sem] run_bits run_from raw_feq raw_fne raw_flt raw_fgt run_neg run_store_float
def fC (f : Nat) : Int := [1, 2, -1, -2, 3, -3].getD f 0
def fR (f : Nat) : Int := [2, -1, -2, 1, 2, 2].getD f 0
def fU (f : Nat) : Int := [3, 3, 3, 3, -1, 1].getD f 0
set_option maxHeartbeats 4000000 in
theorem rframe8_at (f : Nat) (w : World) (hf : f < 6) :
    Calls Tryz.prog 131 #[.int .i64 f] w fun e w' => e = .returned (.tuple #[.int .i64 (fC f), .int .i64 (fR f), .int .i64 (fU f)]) ∧ Below w.heap.size w w' := by
  rcases six hf with rfl | rfl | rfl | rfl | rfl | rfl
  all_goals
    go_enter Tryz.func131, Tryz.ntmps131
    go_wp2
    go_quiet (fail)
    go_wp2
    refine bodyPost_ret (by simp [results, Tryz.results131, go_sem]; exact ⟨rfl, rfl, rfl⟩) rfl ⟨rfl, ?_⟩
    exact Ab.drewN (bl3 w _ _ _) _
def alV (a b : Int) (x : Nat) : Nat := if a = b then x else if a = -b then negB x else 0
def alO (a b : Int) : Bool := decide (a = b) || decide (a = -b)
set_option maxHeartbeats 2000000 in
theorem ralong8_at (a b : Int) (x : Nat) (w : World) (hx : x < 18446744073709551616) (ha : -3 ≤ a ∧ a ≤ 3) (hb : -3 ≤ b ∧ b ≤ 3) :
    Calls Tryz.prog 132 #[.int .i64 a, .int .i64 b, .float .f64 x] w fun e w' => e = .returned (.tuple #[.float .f64 (alV a b x), .bool (alO a b)]) ∧ w' = w := by
  have n0 := negFloat_eq x hx
  clear hx
  by_cases h1 : a = b
  · have e1 : alV a b x = x := by unfold alV; rw [if_pos h1]
    have e2 : alO a b = true := by unfold alO; rw [decide_eq_true h1]; rfl
    rw [e1, e2]
    clear e1 e2
    go_enter Tryz.func132, Tryz.ntmps132
    go_wp2
    go_ret2
    exact ⟨rfl, rfl⟩
  · by_cases h2 : a = -b
    · have e1 : alV a b x = negB x := by unfold alV; rw [if_neg h1, if_pos h2]
      have e2 : alO a b = true := by unfold alO; rw [decide_eq_true h2, Bool.or_true]
      rw [e1, e2]
      clear e1 e2
      go_enter Tryz.func132, Tryz.ntmps132
      go_wp2
      go_ret2
      exact ⟨rfl, rfl⟩
    · have e1 : alV a b x = 0 := by unfold alV; rw [if_neg h1, if_neg h2]
      have e2 : alO a b = false := by unfold alO; rw [decide_eq_false h1, decide_eq_false h2]; rfl
      rw [e1, e2]
      clear e1 e2
      go_enter Tryz.func132, Tryz.ntmps132
      go_wp2
      go_ret2
      exact ⟨rfl, rfl⟩
theorem alV_lt {a b : Int} {x : Nat} (hx : x < 18446744073709551616) : alV a b x < 18446744073709551616 := by
  unfold alV
  split
  · exact hx
  · split
    · exact negB_lt' hx
    · omega
/-- what lies along an axis -/
def cmp (f : Nat) (b : Int) (p q : Nat) : Nat := if alO (fC f) b then alV (fC f) b 4607182418800017408 else if alO (fR f) b then alV (fR f) b p else alV (fU f) b q
theorem cmp_oc {f : Nat} (hf : f < 6) (p q : Nat) : cmp f 1 p q = (oc f p q).1 ∧ cmp f 2 p q = (oc f p q).2.1 ∧ cmp f 3 p q = (oc f p q).2.2 := by
  rcases six hf with rfl | rfl | rfl | rfl | rfl | rfl <;> simp [cmp, alO, alV, fC, fR, fU, oc] <;> decide
theorem fr_le {f : Nat} (hf : f < 6) : (-3 ≤ fC f ∧ fC f ≤ 3) ∧ (-3 ≤ fR f ∧ fR f ≤ 3) ∧ (-3 ≤ fU f ∧ fU f ≤ 3) := by
  rcases six hf with rfl | rfl | rfl | rfl | rfl | rfl <;> decide
set_option maxHeartbeats 4000000 in
theorem rcomp8_at (f : Nat) (b : Int) (p q : Nat) (w : World) (hf : f < 6) (hb : -3 ≤ b ∧ b ≤ 3) (hp : p < 18446744073709551616) (hq : q < 18446744073709551616) :
    Calls Tryz.prog 115 #[.int .i64 f, .int .i64 b, .float .f64 p, .float .f64 q] w fun e w' => e = .returned (.float .f64 (canonB (cmp f b p q))) ∧ Below w.heap.size w w' := by
  obtain ⟨k1, k2, k3⟩ := fr_le hf
  have FR := hid (fun u => rframe8_at f u hf)
  have A1 := hid (fun u => ralong8_at (fC f) b 4607182418800017408 u (by omega) k1 hb)
  have A2 := hid (fun u => ralong8_at (fR f) b p u hp k2 hb)
  have A3 := hid (fun u => ralong8_at (fU f) b q u hq k3 hb)
  have C1 := hid (fun u => rcanon_any (alV (fC f) b 4607182418800017408) u)
  have C2 := hid (fun u => rcanon_any (alV (fR f) b p) u)
  have C3 := hid (fun u => rcanon_any (alV (fU f) b q) u)
  unfold cmp
  generalize alV (fC f) b 4607182418800017408 = x1 at *
  generalize alV (fR f) b p = x2 at *
  generalize alV (fU f) b q = x3 at *
  generalize alO (fC f) b = o1 at *
  generalize alO (fR f) b = o2 at *
  generalize alO (fU f) b = o3 at *
  generalize fC f = c at *
  generalize fR f = r at *
  generalize fU f = u at *
  clear hf hb hp hq k1 k2 k3
  cases o1 with
  | true =>
    rw [if_pos rfl]
    go_enter Tryz.func115, Tryz.ntmps115
    go_wp2_with fail
    refine (FR.out _).mono ?_
    rintro e v ⟨rfl, b1⟩
    go_wp2_with fail
    refine (A1.out _).mono ?_
    rintro e v2 ⟨rfl, rfl⟩
    go_wp2_with fail
    refine (C1.out _).mono ?_
    rintro e v3 ⟨rfl, rfl⟩
    go_wp2
    go_ret
    exact ⟨rfl, b1⟩
  | false =>
    rw [if_neg Bool.false_ne_true]
    cases o2 with
    | true =>
      rw [if_pos rfl]
      go_enter Tryz.func115, Tryz.ntmps115
      go_wp2_with fail
      refine (FR.out _).mono ?_
      rintro e v ⟨rfl, b1⟩
      go_wp2_with fail
      refine (A1.out _).mono ?_
      rintro e v2 ⟨rfl, rfl⟩
      go_wp2_with fail
      refine (A2.out _).mono ?_
      rintro e v3 ⟨rfl, rfl⟩
      go_wp2_with fail
      refine (C2.out _).mono ?_
      rintro e v4 ⟨rfl, rfl⟩
      go_wp2
      go_ret
      exact ⟨rfl, b1⟩
    | false =>
      rw [if_neg Bool.false_ne_true]
      go_enter Tryz.func115, Tryz.ntmps115
      go_wp2_with fail
      refine (FR.out _).mono ?_
      rintro e v ⟨rfl, b1⟩
      go_wp2_with fail
      refine (A1.out _).mono ?_
      rintro e v2 ⟨rfl, rfl⟩
      go_wp2_with fail
      refine (A2.out _).mono ?_
      rintro e v3 ⟨rfl, rfl⟩
      go_wp2_with fail
      refine (A3.out _).mono ?_
      rintro e v4 ⟨rfl, rfl⟩
      go_wp2_with fail
      refine (C3.out _).mono ?_
      rintro e v5 ⟨rfl, rfl⟩
      go_wp2
      go_ret
      exact ⟨rfl, b1⟩
set_option maxHeartbeats 2000000 in
theorem rratio_at (k n : Int) (w : World) (hk : -1000 ≤ k ∧ k ≤ 1000) (hn : -1000 ≤ n ∧ n ≤ 1000) :
    Calls Tryz.prog 95 #[.int .i64 k, .int .i64 n] w fun e w' => ∃ r m, e = .returned (.float .f64 r) ∧ w' = w.drewN m ∧ Hid (IsC r (dvB (fB k) (fB n))) := by
  have F1 : Hid (∀ w, Calls Tryz.prog 116 #[.int .i64 k] w fun e w' => e = .returned (.float .f64 (fB k)) ∧ w' = w) := fun w => Ref2.refFromInt_at k _ w (by omega) (by omega) rfl
  have F2 : Hid (∀ w, Calls Tryz.prog 116 #[.int .i64 n] w fun e w' => e = .returned (.float .f64 (fB n)) ∧ w' = w) := fun w => Ref2.refFromInt_at n _ w (by omega) (by omega) rfl
  obtain ⟨r, m, hr, hc⟩ := div_any (P := Tryz.prog) w (fB k) (fB n)
  have HC := hid hc
  generalize dvB (fB k) (fB n) = d at *
  generalize fB k = x at *
  generalize fB n = y at *
  clear hc hk hn
  go_enter Tryz.func95, Tryz.ntmps95
  go_wp2_with fail
  refine (F1.out _).mono ?_
  rintro e v2 ⟨rfl, rfl⟩
  go_wp2_with fail
  refine (F2.out _).mono ?_
  rintro e v3 ⟨rfl, rfl⟩
  go_wp2
  go_ret
  exact ⟨r, m, rfl, rfl, HC⟩
end Go.Proofs.YtnklgfmemelcpaaGreatDoor

/-
  The reference's points, corners and middles: walks over it.
-/
namespace Go.Proofs.YtnklgfmemelcpaaGreatDoor
open Go.RowKit Tf Cu
attribute [local go_sem] run_bits run_from raw_feq raw_fne raw_flt raw_fgt run_neg run_store_float
set_option maxHeartbeats 8000000 in
theorem rpoint8_at (n f p q : Nat) (k h : Int) (w : World) (n1 : 1 ≤ n) (n2 : n ≤ 32) (hf : f < 6) (hp : IsC p (qo n k)) (hq : IsC q (qo n h)) :
    Calls Tryz.prog 94 #[.int .i64 f, .float .f64 p, .float .f64 q] w fun e w' => e = .returned (.agg #[.float .f64 (px n (fp n f k h)), .float .f64 (py n (fp n f k h)), .float .f64 (pz n (fp n f k h))]) ∧ Below w.heap.size w w' := by
  obtain ⟨c1, c2, c3⟩ := oc_fp n1 n2 hf hp hq
  obtain ⟨d1, d2, d3⟩ := cmp_oc hf p q
  have K1 := hid (fun u => rcomp8_at f 1 p q u hf (by omega) hp.1 hq.1)
  have K2 := hid (fun u => rcomp8_at f 2 p q u hf (by omega) hp.1 hq.1)
  have K3 := hid (fun u => rcomp8_at f 3 p q u hf (by omega) hp.1 hq.1)
  rw [d1, c1] at K1
  rw [d2, c2] at K2
  rw [d3, c3] at K3
  have UN := hid (fun w => runit_at _ _ _ w (qo_lt n (fp n f k h).1) (qo_lt n (fp n f k h).2.1) (qo_lt n (fp n f k h).2.2))
  have hux : unB (lnB (qo n (fp n f k h).1) (qo n (fp n f k h).2.1) (qo n (fp n f k h).2.2)) (qo n (fp n f k h).1) = px n (fp n f k h) := rfl
  have huy : unB (lnB (qo n (fp n f k h).1) (qo n (fp n f k h).2.1) (qo n (fp n f k h).2.2)) (qo n (fp n f k h).2.1) = py n (fp n f k h) := rfl
  have huz : unB (lnB (qo n (fp n f k h).1) (qo n (fp n f k h).2.1) (qo n (fp n f k h).2.2)) (qo n (fp n f k h).2.2) = pz n (fp n f k h) := rfl
  rw [hux, huy, huz] at UN
  clear hux huy huz c1 c2 c3 d1 d2 d3 hp hq n1 n2 hf
  generalize px n (fp n f k h) = a at *
  generalize py n (fp n f k h) = b at *
  generalize pz n (fp n f k h) = c at *
  generalize qo n (fp n f k h).1 = x at *
  generalize qo n (fp n f k h).2.1 = y at *
  generalize qo n (fp n f k h).2.2 = z at *
  have A0 := hid (bl1 w (.cells #[.float .f64 0, .float .f64 0, .float .f64 0] 101))
  have R0 := hid (heap_alloc_new w (.cells #[.float .f64 0, .float .f64 0, .float .f64 0] 101))
  go_enter Tryz.func94, Tryz.ntmps94
  go_wp2_with fail
  refine (K1.out _).mono ?_
  rintro e v1 ⟨rfl, b1⟩
  go_wp2_with fail
  refine (K2.out _).mono ?_
  rintro e v2 ⟨rfl, b2⟩
  go_wp2_with fail
  refine (K3.out _).mono ?_
  rintro e v3 ⟨rfl, b3⟩
  go_wp2_with fail
  refine (UN.out _).mono ?_
  rintro e v4 ⟨rfl, b4⟩
  have A4 : Hid (Ab w v4) := Ab.call (Ab.call (Ab.call (Ab.call A0.out b1) b2) b3) b4
  have r0 : v4.heap[w.heap.size]? = some (.cells #[.float .f64 0, .float .f64 0, .float .f64 0] 101) := Ab.heap b4 (Ab.heap b3 (Ab.heap b2 (Ab.heap b1 R0.out)))
  obtain ⟨⟨o0, o1, o2⟩, o3, o4, o5⟩ := rowfacts r0
  have R4 := hid r0
  clear r0 b1 b2 b3 b4 A0 R0
  go_wp2
  refine bodyPost_ret ?_ rfl ⟨rfl, ?_⟩
  · exact results_cell_row Tryz.results94 _ _ w.heap.size _ _ (0, 0) _ rfl (row3 R4.out) Tryz.underlying101 rfl (by kernel_rfl)
  · exact ((Ab.setk A4.out (by omega) _).setk (by omega) _).setk (by omega) _
set_option maxHeartbeats 4000000 in
theorem rcorner_ok (n f i j : Nat) (w : World) (hn : 1 ≤ n ∧ n ≤ 32) (hf : f < 6) (hi : i ≤ n) (hj : j ≤ n) :
    Calls Tryz.prog 73 #[.int .i64 n, .int .i64 f, .int .i64 i, .int .i64 j] w fun e w' => e = .returned (.tuple #[.agg #[.float .f64 (px n (cr n f i j)), .float .f64 (py n (cr n f i j)), .float .f64 (pz n (cr n f i j))], .bool true]) ∧ Below w.heap.size w w' := by
  have PA : Hid (∀ (k : Int) u, -1000 ≤ k ∧ k ≤ 1000 → Calls Tryz.prog 95 #[.int .i64 k, .int .i64 n] u fun e w' => ∃ r m, e = .returned (.float .f64 r) ∧ w' = u.drewN m ∧ Hid (IsC r (qo n k))) := fun k u hk => rratio_at k n u hk (by omega)
  have PO : Hid (∀ p q u, Hid (IsC p (qo n (2 * i - n))) → Hid (IsC q (qo n (2 * j - n))) → Calls Tryz.prog 94 #[.int .i64 f, .float .f64 p, .float .f64 q] u fun e w' => e = .returned (.agg #[.float .f64 (px n (cr n f i j)), .float .f64 (py n (cr n f i j)), .float .f64 (pz n (cr n f i j))]) ∧ Below u.heap.size u w') := fun p q u hp hq => rpoint8_at n f p q _ _ u hn.1 hn.2 hf hp hq
  generalize px n (cr n f i j) = a at *
  generalize py n (cr n f i j) = b at *
  generalize pz n (cr n f i j) = c at *
  have A0 := hid (bl1 w (.cells #[.float .f64 0, .float .f64 0, .float .f64 0] 101))
  have R0 := hid (heap_alloc_new w (.cells #[.float .f64 0, .float .f64 0, .float .f64 0] 101))
  have hi2 : (i : Int) ≤ 32 := by omega
  have hj2 : (j : Int) ≤ 32 := by omega
  have hn2 : (n : Int) ≤ 32 := by omega
  have hn1 : 1 ≤ (n : Int) := by omega
  have hf2 : (f : Int) ≤ 5 := by omega
  have hi3 : (i : Int) ≤ n := by omega
  have hj3 : (j : Int) ≤ n := by omega
  clear hn hf hi hj
  go_enter Tryz.func73, Tryz.ntmps73
  go_wp2_with fail
  refine (PA.out _ _ (by omega)).mono ?_
  rintro e w1 ⟨p, m1, rfl, rfl, hp⟩
  go_wp2_with fail
  refine (PA.out _ _ (by omega)).mono ?_
  rintro e w1 ⟨q, m2, rfl, rfl, hq⟩
  go_wp2_with fail
  refine (PO.out _ _ _ hp hq).mono ?_
  rintro e w3 ⟨rfl, b3⟩
  have A3 : Hid (Ab w w3) := Ab.call (Ab.drewN A0.out _) b3
  have r0 : w3.heap[w.heap.size]? = some (.cells #[.float .f64 0, .float .f64 0, .float .f64 0] 101) := Ab.heap b3 R0.out
  obtain ⟨⟨o0, o1, o2⟩, o3, o4, o5⟩ := rowfacts r0
  have R3 := hid r0
  clear r0 b3 A0 R0
  go_wp2
  refine bodyPost_ret ?_ rfl ⟨rfl, ?_⟩
  · exact res_two Tryz.results73 _ _ w.heap.size _ _ (0, 0) _ _ rfl rfl (row3 R3.out) Tryz.underlying101 rfl (by kernel_rfl)
  · exact ((Ab.setk A3.out (by omega) _).setk (by omega) _).setk (by omega) _
set_option maxHeartbeats 4000000 in
theorem rcorner_no (n f i j : Int) (w : World) (h : ¬ ((1 ≤ n ∧ n ≤ 32) ∧ (0 ≤ f ∧ f < 6) ∧ (0 ≤ i ∧ i ≤ n) ∧ (0 ≤ j ∧ j ≤ n))) :
    Calls Tryz.prog 73 #[.int .i64 n, .int .i64 f, .int .i64 i, .int .i64 j] w fun e w' => e = .returned (.tuple #[.agg #[.float .f64 0, .float .f64 0, .float .f64 0], .bool false]) ∧ Below w.heap.size w w' := by
  have hc : n < 1 ∨ (1 ≤ n ∧ 32 < n) ∨ ((1 ≤ n ∧ n ≤ 32) ∧ f < 0) ∨ ((1 ≤ n ∧ n ≤ 32) ∧ 0 ≤ f ∧ 5 < f) ∨ ((1 ≤ n ∧ n ≤ 32) ∧ (0 ≤ f ∧ f ≤ 5) ∧ i < 0) ∨ ((1 ≤ n ∧ n ≤ 32) ∧ (0 ≤ f ∧ f ≤ 5) ∧ 0 ≤ i ∧ n < i) ∨ ((1 ≤ n ∧ n ≤ 32) ∧ (0 ≤ f ∧ f ≤ 5) ∧ (0 ≤ i ∧ i ≤ n) ∧ j < 0) ∨ ((1 ≤ n ∧ n ≤ 32) ∧ (0 ≤ f ∧ f ≤ 5) ∧ (0 ≤ i ∧ i ≤ n) ∧ 0 ≤ j ∧ n < j) := by omega
  clear h
  rcases hc with h | h | h | h | h | h | h | h
  all_goals
    go_enter Tryz.func73, Tryz.ntmps73
    go_wp2
    refine bodyPost_ret ?_ rfl ⟨rfl, bl1 w _⟩
    exact res_two Tryz.results73 _ _ w.heap.size _ _ (0, 0) _ _ rfl rfl (heap_alloc_new w _) Tryz.underlying101 rfl (by kernel_rfl)
theorem rplace_okN (n c : Nat) (hn : 1 ≤ n ∧ n ≤ 32) (hc : c < 6 * n * n) (w : World) :
    Calls Tryz.prog 72 #[.int .i64 n, .int .i64 c] w fun e w' => e = .returned (.tuple #[.int .i64 (cf n c), .int .i64 (ci n c), .int .i64 (cj n c), .bool true]) ∧ ∃ k, w' = w.drewN k := by
  have h := rplace_at n c w
  have hin : inR c (clN n) = true := by rw [inR_iff, clN_nat hn]; omega
  rw [hin, show pF n c = (cf n c : Nat) by simp [pF, hin, cf], show pI n c = (ci n c : Nat) by simp [pI, hin, ci], show pJ n c = (cj n c : Nat) by simp [pJ, hin, cj]] at h
  exact h
set_option maxHeartbeats 4000000 in
theorem rmiddle8_ok (n c : Nat) (w : World) (hn : 1 ≤ n ∧ n ≤ 32) (hc : c < 6 * n * n) :
    Calls Tryz.prog 79 #[.int .i64 n, .int .i64 c] w fun e w' => e = .returned (.tuple #[.agg #[.float .f64 (px n (MD n c)), .float .f64 (py n (MD n c)), .float .f64 (pz n (MD n c))], .bool true]) ∧ Below w.heap.size w w' := by
  obtain ⟨h1, h2, h3, -⟩ := dec_lt hn.1 hc
  have PL := hid (fun u => rplace_okN n c hn hc u)
  have PA : Hid (∀ (k : Int) u, -1000 ≤ k ∧ k ≤ 1000 → Calls Tryz.prog 95 #[.int .i64 k, .int .i64 n] u fun e w' => ∃ r m, e = .returned (.float .f64 r) ∧ w' = u.drewN m ∧ Hid (IsC r (qo n k))) := fun k u hk => rratio_at k n u hk (by omega)
  have PO : Hid (∀ p q u, Hid (IsC p (qo n (2 * (ci n c : Nat) + 1 - n))) → Hid (IsC q (qo n (2 * (cj n c : Nat) + 1 - n))) → Calls Tryz.prog 94 #[.int .i64 (cf n c : Nat), .float .f64 p, .float .f64 q] u fun e w' => e = .returned (.agg #[.float .f64 (px n (MD n c)), .float .f64 (py n (MD n c)), .float .f64 (pz n (MD n c))]) ∧ Below u.heap.size u w') := fun p q u hp hq => rpoint8_at n _ p q _ _ u hn.1 hn.2 h1 hp hq
  generalize px n (MD n c) = a at *
  generalize py n (MD n c) = b at *
  generalize pz n (MD n c) = d at *
  generalize cf n c = f at *
  have hi : ((ci n c : Nat) : Int) ≤ 32 := by omega
  have hj : ((cj n c : Nat) : Int) ≤ 32 := by omega
  have hn2 : (n : Int) ≤ 32 := by omega
  generalize ci n c = i at *
  generalize cj n c = j at *
  clear hn hc h1 h2 h3
  have A0 := hid (bl1 w (.cells #[.float .f64 0, .float .f64 0, .float .f64 0] 101))
  have R0 := hid (heap_alloc_new w (.cells #[.float .f64 0, .float .f64 0, .float .f64 0] 101))
  go_enter Tryz.func79, Tryz.ntmps79
  go_wp2_with fail
  refine (PL.out _).mono ?_
  rintro e w1 ⟨rfl, m0, rfl⟩
  go_wp2_with fail
  refine (PA.out _ _ (by omega)).mono ?_
  rintro e w1 ⟨p, m1, rfl, rfl, hp⟩
  go_wp2_with fail
  refine (PA.out _ _ (by omega)).mono ?_
  rintro e w1 ⟨q, m2, rfl, rfl, hq⟩
  go_wp2_with fail
  refine (PO.out _ _ _ hp hq).mono ?_
  rintro e w3 ⟨rfl, b3⟩
  have A3 : Hid (Ab w w3) := Ab.call (Ab.drewN A0.out _) b3
  have r0 : w3.heap[w.heap.size]? = some (.cells #[.float .f64 0, .float .f64 0, .float .f64 0] 101) := Ab.heap b3 R0.out
  obtain ⟨⟨o0, o1, o2⟩, o3, o4, o5⟩ := rowfacts r0
  have R3 := hid r0
  clear r0 b3 A0 R0
  go_wp2
  refine bodyPost_ret ?_ rfl ⟨rfl, ?_⟩
  · exact res_two Tryz.results79 _ _ w.heap.size _ _ (0, 0) _ _ rfl rfl (row3 R3.out) Tryz.underlying101 rfl (by kernel_rfl)
  · exact ((Ab.setk A3.out (by omega) _).setk (by omega) _).setk (by omega) _
set_option maxHeartbeats 2000000 in
theorem rmiddle8_no (n c : Int) (w : World) (h : inR c (clN n) = false) :
    Calls Tryz.prog 79 #[.int .i64 n, .int .i64 c] w fun e w' => e = .returned (.tuple #[.agg #[.float .f64 0, .float .f64 0, .float .f64 0], .bool false]) ∧ Below w.heap.size w w' := by
  have PL := hid (fun u => rplace_at n c u)
  rw [h] at PL
  generalize pF n c = f at *
  generalize pI n c = i at *
  generalize pJ n c = j at *
  clear h
  go_enter Tryz.func79, Tryz.ntmps79
  go_wp2_with fail
  refine (PL.out _).mono ?_
  rintro e w1 ⟨rfl, m0, rfl⟩
  have r0 : (World.drewN (w.alloc (.cells #[.float .f64 0, .float .f64 0, .float .f64 0] 101)) m0).heap[w.heap.size]? = some (.cells #[.float .f64 0, .float .f64 0, .float .f64 0] 101) := heap_alloc_new _ _
  obtain ⟨⟨o0, o1, o2⟩, o3, o4, o5⟩ := rowfacts r0
  have R3 := hid r0
  clear r0
  go_wp2
  refine bodyPost_ret ?_ rfl ⟨rfl, ?_⟩
  · exact res_two Tryz.results79 _ _ w.heap.size _ _ (0, 0) _ _ rfl rfl (row3 R3.out) Tryz.underlying101 rfl (by kernel_rfl)
  · exact (((Ab.drewN (bl1 w _) m0).setk (by omega) _).setk (by omega) _).setk (by omega) _
end Go.Proofs.YtnklgfmemelcpaaGreatDoor
