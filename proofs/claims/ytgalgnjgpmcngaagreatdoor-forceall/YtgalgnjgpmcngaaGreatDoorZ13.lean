/-
  Some of the texts of this proof, one behind the other.
-/
import Derived.Test.YtgalgnjgpmcngaaGreatDoorZ12
namespace Go.Proofs.YtgalgnjgpmcngaaGreatDoor.Ref2
open Go.RowKit Tf
attribute [local go_sem] run_bits run_from raw_feq raw_fne raw_flt raw_fgt run_neg

theorem small52 (m : Nat) (e : Int) (r : Nat) (w : World) (hm : m ≤ 9223372036854775808) (e0 : -1074 ≤ e) (e1 : e ≤ 900) (hr : min (rung 52 0 (m * 2 ^ (e + 1074).toNat)) 9218868437227405312 = r) :
    Calls Tryz.prog 131 #[.int .u64 (m : Nat), .int .i64 e, .int .i64 52, .int .i64 (-1074), .int .u64 9218868437227405312] w fun e w' => e = .returned (.int .u64 (r : Nat)) ∧ w' = w := by
  refine small_at m 52 9218868437227405312 e (-1074) r w hm (.inr e0) (by decide) (by omega) (by omega) (by decide) (by decide) (fun u hu => by omega) ?_
  have h1 : ((-1074 : Int) - e).toNat = 0 := by omega
  have h2 : (e - (-1074)).toNat = (e + 1074).toNat := by omega
  rw [h1, h2]; exact hr
set_option maxHeartbeats 1000000 in
theorem fi_pos (i : Int) (m r : Nat) (w : World) (h : ¬ i < 0) (hi : IntKind.u64.wrap i = (m : Int)) (hw : IntKind.u64.wrap (r : Int) = (r : Int)) (S : Hid (∀ w, Calls Tryz.prog 131 #[.int .u64 (m : Nat), .int .i64 0, .int .i64 52, .int .i64 (-1074), .int .u64 9218868437227405312] w fun e w' => e = .returned (.int .u64 (r : Nat)) ∧ w' = w)) :
    Calls Tryz.prog 102 #[.int .i64 i] w fun e w' => e = .returned (.float .f64 r) ∧ w' = w := by
  go_enter Tryz.func102, Tryz.ntmps102
  go_wp2_with fail
  refine (S.out _).mono ?_
  rintro e w' ⟨rfl, rfl⟩
  go_wp2_with fail
  refine (from_at (r : Int) r _ (by omega)).mono ?_
  rintro e w' ⟨rfl, rfl⟩
  go_wp2
  go_ret
  exact ⟨rfl, rfl⟩

set_option maxHeartbeats 1000000 in
theorem fi_neg (i : Int) (a m r s : Nat) (w : World) (h : i < 0) (hi : IntKind.u64.wrap i = (a : Int)) (ha : IntKind.u64.wrap (-(a : Int)) = (m : Int)) (hw : IntKind.u64.wrap (9223372036854775808 + (r : Int)) = (s : Int)) (S : Hid (∀ w, Calls Tryz.prog 131 #[.int .u64 (m : Nat), .int .i64 0, .int .i64 52, .int .i64 (-1074), .int .u64 9218868437227405312] w fun e w' => e = .returned (.int .u64 (r : Nat)) ∧ w' = w)) :
    Calls Tryz.prog 102 #[.int .i64 i] w fun e w' => e = .returned (.float .f64 s) ∧ w' = w := by
  go_enter Tryz.func102, Tryz.ntmps102
  go_wp2_with fail
  refine (S.out _).mono ?_
  rintro e w' ⟨rfl, rfl⟩
  go_wp2_with fail
  refine (from_at (s : Int) s _ (by omega)).mono ?_
  rintro e w' ⟨rfl, rfl⟩
  go_wp2
  go_ret
  exact ⟨rfl, rfl⟩

theorem refFromInt_at (i : Int) (r : Nat) (w : World) (i0 : -9223372036854775808 ≤ i) (i1 : i ≤ 9223372036854775807) (hr : rn false (i * one) = r) :
    Calls Tryz.prog 102 #[.int .i64 i] w fun e w' => e = .returned (.float .f64 r) ∧ w' = w := by
  have hK : (1074 : Nat) = K := rfl
  have hab : (i * (one : Int)).natAbs = i.natAbs * one := by rw [Int.natAbs_mul, Int.natAbs_natCast]
  have ho : ((0 : Int) + 1074).toNat = K := by rw [K_eq]; decide
  have hs := fun w => small52 i.natAbs 0 _ w (by omega) (by decide) (by decide) rfl
  rw [ho, ← one_pow] at hs
  have hlt : min (rung 52 0 (i.natAbs * one)) 9218868437227405312 ≤ 9218868437227405312 := Nat.min_le_right _ _
  have hp := onep
  have hrn : rn false (i * one) = if i < 0 then 9223372036854775808 + min (rung 52 0 (i.natAbs * one)) 9218868437227405312 else min (rung 52 0 (i.natAbs * one)) 9218868437227405312 := by
    unfold rn
    rw [hab]
    have h2 : (if i * (one : Int) = 0 then false else decide (i * (one : Int) < 0)) = decide (i < 0) := by
      by_cases c : i = 0
      · subst c; simp
      · have c' : ¬ i * (one : Int) = 0 := by rw [Int.mul_eq_zero]; omega
        rw [if_neg c']
        have : i * (one : Int) < 0 ↔ i < 0 := by
          have : i * (one : Int) < 0 * (one : Int) ↔ i < 0 := Int.mul_lt_mul_right hp
          rwa [Int.zero_mul] at this
        exact decide_eq_decide.2 this
    rw [h2]
    by_cases c : i < 0
    · rw [decide_eq_true c, if_pos rfl, if_pos c]
    · rw [decide_eq_false c, if_neg (by decide), if_neg c]
  rw [hrn] at hr
  generalize min (rung 52 0 (i.natAbs * one)) 9218868437227405312 = q at *
  by_cases c : i < 0
  · rw [if_pos c] at hr
    subst hr
    have w1 : IntKind.u64.wrap i = ((18446744073709551616 - i.natAbs : Nat) : Int) := by
      simp [IntKind.wrap, IntKind.bits, IntKind.signed]; omega
    have w2 : IntKind.u64.wrap (-((18446744073709551616 - i.natAbs : Nat) : Int)) = (i.natAbs : Int) := by
      simp [IntKind.wrap, IntKind.bits, IntKind.signed]; omega
    exact fi_neg i _ _ q (9223372036854775808 + q) w c w1 w2 (by rw [wrap_id] <;> omega) hs
  · rw [if_neg c] at hr
    subst hr
    exact fi_pos i i.natAbs q w c (by rw [wrap_id] <;> omega) (by rw [wrap_id] <;> omega) hs
end Go.Proofs.YtgalgnjgpmcngaaGreatDoor.Ref2

namespace Go.Proofs.YtgalgnjgpmcngaaGreatDoor
open Go.RowKit Tf Cu
attribute [local go_sem] run_bits run_from raw_feq raw_fne raw_flt raw_fgt run_neg run_store_float
def fC (f : Nat) : Int := [1, 2, -1, -2, 3, -3].getD f 0
def fR (f : Nat) : Int := [2, -1, -2, 1, 2, 2].getD f 0
def fU (f : Nat) : Int := [3, 3, 3, 3, -1, 1].getD f 0
set_option maxHeartbeats 4000000 in
theorem rframe8_at (f : Nat) (w : World) (hf : f < 6) :
    Calls Tryz.prog 156 #[.int .i64 f] w fun e w' => e = .returned (.tuple #[.int .i64 (fC f), .int .i64 (fR f), .int .i64 (fU f)]) ∧ Below w.heap.size w w' := by
  rcases six hf with rfl | rfl | rfl | rfl | rfl | rfl
  all_goals
    go_enter Tryz.func156, Tryz.ntmps156
    go_wp2
    go_quiet (fail)
    go_wp2
    refine bodyPost_ret (by simp [results, Tryz.results156, go_sem]; exact ⟨rfl, rfl, rfl⟩) rfl ⟨rfl, ?_⟩
    exact Ab.drewN (bl3 w _ _ _) _
def alV (a b : Int) (x : Nat) : Nat := if a = b then x else if a = -b then negB x else 0
def alO (a b : Int) : Bool := decide (a = b) || decide (a = -b)
set_option maxHeartbeats 2000000 in
theorem ralong8_at (a b : Int) (x : Nat) (w : World) (hx : x < 18446744073709551616) (ha : -3 ≤ a ∧ a ≤ 3) (hb : -3 ≤ b ∧ b ≤ 3) :
    Calls Tryz.prog 157 #[.int .i64 a, .int .i64 b, .float .f64 x] w fun e w' => e = .returned (.tuple #[.float .f64 (alV a b x), .bool (alO a b)]) ∧ w' = w := by
  have n0 := negFloat_eq x hx
  clear hx
  by_cases h1 : a = b
  · have e1 : alV a b x = x := by unfold alV; rw [if_pos h1]
    have e2 : alO a b = true := by unfold alO; rw [decide_eq_true h1]; rfl
    rw [e1, e2]
    clear e1 e2
    go_enter Tryz.func157, Tryz.ntmps157
    go_wp2
    go_ret2
    exact ⟨rfl, rfl⟩
  · by_cases h2 : a = -b
    · have e1 : alV a b x = negB x := by unfold alV; rw [if_neg h1, if_pos h2]
      have e2 : alO a b = true := by unfold alO; rw [decide_eq_true h2, Bool.or_true]
      rw [e1, e2]
      clear e1 e2
      go_enter Tryz.func157, Tryz.ntmps157
      go_wp2
      go_ret2
      exact ⟨rfl, rfl⟩
    · have e1 : alV a b x = 0 := by unfold alV; rw [if_neg h1, if_neg h2]
      have e2 : alO a b = false := by unfold alO; rw [decide_eq_false h1, decide_eq_false h2]; rfl
      rw [e1, e2]
      clear e1 e2
      go_enter Tryz.func157, Tryz.ntmps157
      go_wp2
      go_ret2
      exact ⟨rfl, rfl⟩
/-- what lies along an axis -/
def cmp (f : Nat) (b : Int) (p q : Nat) : Nat := if alO (fC f) b then alV (fC f) b 4607182418800017408 else if alO (fR f) b then alV (fR f) b p else alV (fU f) b q
theorem cmp_oc {f : Nat} (hf : f < 6) (p q : Nat) : cmp f 1 p q = (oc f p q).1 ∧ cmp f 2 p q = (oc f p q).2.1 ∧ cmp f 3 p q = (oc f p q).2.2 := by
  rcases six hf with rfl | rfl | rfl | rfl | rfl | rfl <;> simp [cmp, alO, alV, fC, fR, fU, oc] <;> decide
theorem fr_le {f : Nat} (hf : f < 6) : (-3 ≤ fC f ∧ fC f ≤ 3) ∧ (-3 ≤ fR f ∧ fR f ≤ 3) ∧ (-3 ≤ fU f ∧ fU f ≤ 3) := by
  rcases six hf with rfl | rfl | rfl | rfl | rfl | rfl <;> decide
set_option maxHeartbeats 4000000 in
theorem rcomp8_at (f : Nat) (b : Int) (p q : Nat) (w : World) (hf : f < 6) (hb : -3 ≤ b ∧ b ≤ 3) (hp : p < 18446744073709551616) (hq : q < 18446744073709551616) :
    Calls Tryz.prog 147 #[.int .i64 f, .int .i64 b, .float .f64 p, .float .f64 q] w fun e w' => e = .returned (.float .f64 (canonB (cmp f b p q))) ∧ Below w.heap.size w w' := by
  obtain ⟨k1, k2, k3⟩ := fr_le hf
  have FR := hid (fun u => rframe8_at f u hf)
  have A1 := hid (fun u => ralong8_at (fC f) b 4607182418800017408 u (by omega) k1 hb)
  have A2 := hid (fun u => ralong8_at (fR f) b p u hp k2 hb)
  have A3 := hid (fun u => ralong8_at (fU f) b q u hq k3 hb)
  have C1 := hid (fun u => rcanon_any (alV (fC f) b 4607182418800017408) u)
  have C2 := hid (fun u => rcanon_any (alV (fR f) b p) u)
  have C3 := hid (fun u => rcanon_any (alV (fU f) b q) u)
  unfold cmp
  generalize alV (fC f) b 4607182418800017408 = x1 at *
  generalize alV (fR f) b p = x2 at *
  generalize alV (fU f) b q = x3 at *
  generalize alO (fC f) b = o1 at *
  generalize alO (fR f) b = o2 at *
  generalize alO (fU f) b = o3 at *
  generalize fC f = c at *
  generalize fR f = r at *
  generalize fU f = u at *
  clear hf hb hp hq k1 k2 k3
  cases o1 with
  | true =>
    rw [if_pos rfl]
    go_enter Tryz.func147, Tryz.ntmps147
    go_wp2_with fail
    refine (FR.out _).mono ?_
    rintro e v ⟨rfl, b1⟩
    go_wp2_with fail
    refine (A1.out _).mono ?_
    rintro e v2 ⟨rfl, rfl⟩
    go_wp2_with fail
    refine (C1.out _).mono ?_
    rintro e v3 ⟨rfl, rfl⟩
    go_wp2
    go_ret
    exact ⟨rfl, b1⟩
  | false =>
    rw [if_neg Bool.false_ne_true]
    cases o2 with
    | true =>
      rw [if_pos rfl]
      go_enter Tryz.func147, Tryz.ntmps147
      go_wp2_with fail
      refine (FR.out _).mono ?_
      rintro e v ⟨rfl, b1⟩
      go_wp2_with fail
      refine (A1.out _).mono ?_
      rintro e v2 ⟨rfl, rfl⟩
      go_wp2_with fail
      refine (A2.out _).mono ?_
      rintro e v3 ⟨rfl, rfl⟩
      go_wp2_with fail
      refine (C2.out _).mono ?_
      rintro e v4 ⟨rfl, rfl⟩
      go_wp2
      go_ret
      exact ⟨rfl, b1⟩
    | false =>
      rw [if_neg Bool.false_ne_true]
      go_enter Tryz.func147, Tryz.ntmps147
      go_wp2_with fail
      refine (FR.out _).mono ?_
      rintro e v ⟨rfl, b1⟩
      go_wp2_with fail
      refine (A1.out _).mono ?_
      rintro e v2 ⟨rfl, rfl⟩
      go_wp2_with fail
      refine (A2.out _).mono ?_
      rintro e v3 ⟨rfl, rfl⟩
      go_wp2_with fail
      refine (A3.out _).mono ?_
      rintro e v4 ⟨rfl, rfl⟩
      go_wp2_with fail
      refine (C3.out _).mono ?_
      rintro e v5 ⟨rfl, rfl⟩
      go_wp2
      go_ret
      exact ⟨rfl, b1⟩
set_option maxHeartbeats 2000000 in
theorem rratio_at (k n : Int) (w : World) (hk : -1000 ≤ k ∧ k ≤ 1000) (hn : -1000 ≤ n ∧ n ≤ 1000) :
    Calls Tryz.prog 130 #[.int .i64 k, .int .i64 n] w fun e w' => ∃ r m, e = .returned (.float .f64 r) ∧ w' = w.drewN m ∧ Hid (IsC r (dvB (fB k) (fB n))) := by
  have F1 : Hid (∀ w, Calls Tryz.prog 102 #[.int .i64 k] w fun e w' => e = .returned (.float .f64 (fB k)) ∧ w' = w) := fun w => Ref2.refFromInt_at k _ w (by omega) (by omega) rfl
  have F2 : Hid (∀ w, Calls Tryz.prog 102 #[.int .i64 n] w fun e w' => e = .returned (.float .f64 (fB n)) ∧ w' = w) := fun w => Ref2.refFromInt_at n _ w (by omega) (by omega) rfl
  obtain ⟨r, m, hr, hc⟩ := div_any (P := Tryz.prog) w (fB k) (fB n)
  have HC := hid hc
  generalize dvB (fB k) (fB n) = d at *
  generalize fB k = x at *
  generalize fB n = y at *
  clear hc hk hn
  go_enter Tryz.func130, Tryz.ntmps130
  go_wp2_with fail
  refine (F1.out _).mono ?_
  rintro e v2 ⟨rfl, rfl⟩
  go_wp2_with fail
  refine (F2.out _).mono ?_
  rintro e v3 ⟨rfl, rfl⟩
  go_wp2
  go_ret
  exact ⟨r, m, rfl, rfl, HC⟩
end Go.Proofs.YtgalgnjgpmcngaaGreatDoor

namespace Go.Proofs.YtgalgnjgpmcngaaGreatDoor
open Go.RowKit Tf Cu
attribute [local go_sem] run_bits run_from raw_feq raw_fne raw_flt raw_fgt run_neg run_store_float
set_option maxHeartbeats 8000000 in
theorem rpoint8_at (n f p q : Nat) (k h : Int) (w : World) (n1 : 1 ≤ n) (n2 : n ≤ 32) (hf : f < 6) (hp : IsC p (qo n k)) (hq : IsC q (qo n h)) :
    Calls Tryz.prog 129 #[.int .i64 f, .float .f64 p, .float .f64 q] w fun e w' => e = .returned (.agg #[.float .f64 (px n (fp n f k h)), .float .f64 (py n (fp n f k h)), .float .f64 (pz n (fp n f k h))]) ∧ Below w.heap.size w w' := by
  obtain ⟨c1, c2, c3⟩ := oc_fp n1 n2 hf hp hq
  obtain ⟨d1, d2, d3⟩ := cmp_oc hf p q
  have K1 := hid (fun u => rcomp8_at f 1 p q u hf (by omega) hp.1 hq.1)
  have K2 := hid (fun u => rcomp8_at f 2 p q u hf (by omega) hp.1 hq.1)
  have K3 := hid (fun u => rcomp8_at f 3 p q u hf (by omega) hp.1 hq.1)
  rw [d1, c1] at K1
  rw [d2, c2] at K2
  rw [d3, c3] at K3
  have UN := hid (fun w => runit_at _ _ _ w (qo_lt n (fp n f k h).1) (qo_lt n (fp n f k h).2.1) (qo_lt n (fp n f k h).2.2))
  have hux : unB (lnB (qo n (fp n f k h).1) (qo n (fp n f k h).2.1) (qo n (fp n f k h).2.2)) (qo n (fp n f k h).1) = px n (fp n f k h) := rfl
  have huy : unB (lnB (qo n (fp n f k h).1) (qo n (fp n f k h).2.1) (qo n (fp n f k h).2.2)) (qo n (fp n f k h).2.1) = py n (fp n f k h) := rfl
  have huz : unB (lnB (qo n (fp n f k h).1) (qo n (fp n f k h).2.1) (qo n (fp n f k h).2.2)) (qo n (fp n f k h).2.2) = pz n (fp n f k h) := rfl
  rw [hux, huy, huz] at UN
  clear hux huy huz c1 c2 c3 d1 d2 d3 hp hq n1 n2 hf
  generalize px n (fp n f k h) = a at *
  generalize py n (fp n f k h) = b at *
  generalize pz n (fp n f k h) = c at *
  generalize qo n (fp n f k h).1 = x at *
  generalize qo n (fp n f k h).2.1 = y at *
  generalize qo n (fp n f k h).2.2 = z at *
  have A0 := hid (bl1 w (.cells #[.float .f64 0, .float .f64 0, .float .f64 0] 128))
  have R0 := hid (heap_alloc_new w (.cells #[.float .f64 0, .float .f64 0, .float .f64 0] 128))
  go_enter Tryz.func129, Tryz.ntmps129
  go_wp2_with fail
  refine (K1.out _).mono ?_
  rintro e v1 ⟨rfl, b1⟩
  go_wp2_with fail
  refine (K2.out _).mono ?_
  rintro e v2 ⟨rfl, b2⟩
  go_wp2_with fail
  refine (K3.out _).mono ?_
  rintro e v3 ⟨rfl, b3⟩
  go_wp2_with fail
  refine (UN.out _).mono ?_
  rintro e v4 ⟨rfl, b4⟩
  have A4 : Hid (Ab w v4) := Ab.call (Ab.call (Ab.call (Ab.call A0.out b1) b2) b3) b4
  have r0 : v4.heap[w.heap.size]? = some (.cells #[.float .f64 0, .float .f64 0, .float .f64 0] 128) := Ab.heap b4 (Ab.heap b3 (Ab.heap b2 (Ab.heap b1 R0.out)))
  obtain ⟨⟨o0, o1, o2⟩, o3, o4, o5⟩ := rowfacts r0
  have R4 := hid r0
  clear r0 b1 b2 b3 b4 A0 R0
  go_wp2
  refine bodyPost_ret ?_ rfl ⟨rfl, ?_⟩
  · exact results_cell_row Tryz.results129 _ _ w.heap.size _ _ (0, 0) _ rfl (row3 R4.out) Tryz.underlying128 rfl (by kernel_rfl)
  · exact ((Ab.setk A4.out (by omega) _).setk (by omega) _).setk (by omega) _
set_option maxHeartbeats 4000000 in
theorem rcorner_ok (n f i j : Nat) (w : World) (hn : 1 ≤ n ∧ n ≤ 32) (hf : f < 6) (hi : i ≤ n) (hj : j ≤ n) :
    Calls Tryz.prog 124 #[.int .i64 n, .int .i64 f, .int .i64 i, .int .i64 j] w fun e w' => e = .returned (.tuple #[.agg #[.float .f64 (px n (cr n f i j)), .float .f64 (py n (cr n f i j)), .float .f64 (pz n (cr n f i j))], .bool true]) ∧ Below w.heap.size w w' := by
  have PA : Hid (∀ (k : Int) u, -1000 ≤ k ∧ k ≤ 1000 → Calls Tryz.prog 130 #[.int .i64 k, .int .i64 n] u fun e w' => ∃ r m, e = .returned (.float .f64 r) ∧ w' = u.drewN m ∧ Hid (IsC r (qo n k))) := fun k u hk => rratio_at k n u hk (by omega)
  have PO : Hid (∀ p q u, Hid (IsC p (qo n (2 * i - n))) → Hid (IsC q (qo n (2 * j - n))) → Calls Tryz.prog 129 #[.int .i64 f, .float .f64 p, .float .f64 q] u fun e w' => e = .returned (.agg #[.float .f64 (px n (cr n f i j)), .float .f64 (py n (cr n f i j)), .float .f64 (pz n (cr n f i j))]) ∧ Below u.heap.size u w') := fun p q u hp hq => rpoint8_at n f p q _ _ u hn.1 hn.2 hf hp hq
  generalize px n (cr n f i j) = a at *
  generalize py n (cr n f i j) = b at *
  generalize pz n (cr n f i j) = c at *
  have A0 := hid (bl1 w (.cells #[.float .f64 0, .float .f64 0, .float .f64 0] 128))
  have R0 := hid (heap_alloc_new w (.cells #[.float .f64 0, .float .f64 0, .float .f64 0] 128))
  have hi2 : (i : Int) ≤ 32 := by omega
  have hj2 : (j : Int) ≤ 32 := by omega
  have hn2 : (n : Int) ≤ 32 := by omega
  have hn1 : 1 ≤ (n : Int) := by omega
  have hf2 : (f : Int) ≤ 5 := by omega
  have hi3 : (i : Int) ≤ n := by omega
  have hj3 : (j : Int) ≤ n := by omega
  clear hn hf hi hj
  go_enter Tryz.func124, Tryz.ntmps124
  go_wp2_with fail
  refine (PA.out _ _ (by omega)).mono ?_
  rintro e w1 ⟨p, m1, rfl, rfl, hp⟩
  go_wp2_with fail
  refine (PA.out _ _ (by omega)).mono ?_
  rintro e w1 ⟨q, m2, rfl, rfl, hq⟩
  go_wp2_with fail
  refine (PO.out _ _ _ hp hq).mono ?_
  rintro e w3 ⟨rfl, b3⟩
  have A3 : Hid (Ab w w3) := Ab.call (Ab.drewN A0.out _) b3
  have r0 : w3.heap[w.heap.size]? = some (.cells #[.float .f64 0, .float .f64 0, .float .f64 0] 128) := Ab.heap b3 R0.out
  obtain ⟨⟨o0, o1, o2⟩, o3, o4, o5⟩ := rowfacts r0
  have R3 := hid r0
  clear r0 b3 A0 R0
  go_wp2
  refine bodyPost_ret ?_ rfl ⟨rfl, ?_⟩
  · exact res_two Tryz.results124 _ _ w.heap.size _ _ (0, 0) _ _ rfl rfl (row3 R3.out) Tryz.underlying128 rfl (by kernel_rfl)
  · exact ((Ab.setk A3.out (by omega) _).setk (by omega) _).setk (by omega) _
theorem rplace_okN (n c : Nat) (hn : 1 ≤ n ∧ n ≤ 32) (hc : c < 6 * n * n) (w : World) :
    Calls Tryz.prog 97 #[.int .i64 n, .int .i64 c] w fun e w' => e = .returned (.tuple #[.int .i64 (cf n c), .int .i64 (ci n c), .int .i64 (cj n c), .bool true]) ∧ ∃ k, w' = w.drewN k := by
  have h := rplace_at n c w
  have hin : inR c (clN n) = true := by rw [inR_iff, clN_nat hn]; omega
  rw [hin, show pF n c = (cf n c : Nat) by simp [pF, hin, cf], show pI n c = (ci n c : Nat) by simp [pI, hin, ci], show pJ n c = (cj n c : Nat) by simp [pJ, hin, cj]] at h
  exact h
set_option maxHeartbeats 4000000 in
theorem rmiddle8_ok (n c : Nat) (w : World) (hn : 1 ≤ n ∧ n ≤ 32) (hc : c < 6 * n * n) :
    Calls Tryz.prog 100 #[.int .i64 n, .int .i64 c] w fun e w' => e = .returned (.tuple #[.agg #[.float .f64 (px n (MD n c)), .float .f64 (py n (MD n c)), .float .f64 (pz n (MD n c))], .bool true]) ∧ Below w.heap.size w w' := by
  obtain ⟨h1, h2, h3, -⟩ := dec_lt hn.1 hc
  have PL := hid (fun u => rplace_okN n c hn hc u)
  have PA : Hid (∀ (k : Int) u, -1000 ≤ k ∧ k ≤ 1000 → Calls Tryz.prog 130 #[.int .i64 k, .int .i64 n] u fun e w' => ∃ r m, e = .returned (.float .f64 r) ∧ w' = u.drewN m ∧ Hid (IsC r (qo n k))) := fun k u hk => rratio_at k n u hk (by omega)
  have PO : Hid (∀ p q u, Hid (IsC p (qo n (2 * (ci n c : Nat) + 1 - n))) → Hid (IsC q (qo n (2 * (cj n c : Nat) + 1 - n))) → Calls Tryz.prog 129 #[.int .i64 (cf n c : Nat), .float .f64 p, .float .f64 q] u fun e w' => e = .returned (.agg #[.float .f64 (px n (MD n c)), .float .f64 (py n (MD n c)), .float .f64 (pz n (MD n c))]) ∧ Below u.heap.size u w') := fun p q u hp hq => rpoint8_at n _ p q _ _ u hn.1 hn.2 h1 hp hq
  generalize px n (MD n c) = a at *
  generalize py n (MD n c) = b at *
  generalize pz n (MD n c) = d at *
  generalize cf n c = f at *
  have hi : ((ci n c : Nat) : Int) ≤ 32 := by omega
  have hj : ((cj n c : Nat) : Int) ≤ 32 := by omega
  have hn2 : (n : Int) ≤ 32 := by omega
  generalize ci n c = i at *
  generalize cj n c = j at *
  clear hn hc h1 h2 h3
  have A0 := hid (bl1 w (.cells #[.float .f64 0, .float .f64 0, .float .f64 0] 128))
  have R0 := hid (heap_alloc_new w (.cells #[.float .f64 0, .float .f64 0, .float .f64 0] 128))
  go_enter Tryz.func100, Tryz.ntmps100
  go_wp2_with fail
  refine (PL.out _).mono ?_
  rintro e w1 ⟨rfl, m0, rfl⟩
  go_wp2_with fail
  refine (PA.out _ _ (by omega)).mono ?_
  rintro e w1 ⟨p, m1, rfl, rfl, hp⟩
  go_wp2_with fail
  refine (PA.out _ _ (by omega)).mono ?_
  rintro e w1 ⟨q, m2, rfl, rfl, hq⟩
  go_wp2_with fail
  refine (PO.out _ _ _ hp hq).mono ?_
  rintro e w3 ⟨rfl, b3⟩
  have A3 : Hid (Ab w w3) := Ab.call (Ab.drewN A0.out _) b3
  have r0 : w3.heap[w.heap.size]? = some (.cells #[.float .f64 0, .float .f64 0, .float .f64 0] 128) := Ab.heap b3 R0.out
  obtain ⟨⟨o0, o1, o2⟩, o3, o4, o5⟩ := rowfacts r0
  have R3 := hid r0
  clear r0 b3 A0 R0
  go_wp2
  refine bodyPost_ret ?_ rfl ⟨rfl, ?_⟩
  · exact res_two Tryz.results100 _ _ w.heap.size _ _ (0, 0) _ _ rfl rfl (row3 R3.out) Tryz.underlying128 rfl (by kernel_rfl)
  · exact ((Ab.setk A3.out (by omega) _).setk (by omega) _).setk (by omega) _
end Go.Proofs.YtgalgnjgpmcngaaGreatDoor

namespace Go.Proofs.YtgalgnjgpmcngaaGreatDoor
open Go.RowKit Tf Cu
attribute [local go_sem] run_bits run_from raw_feq raw_fne raw_flt raw_fgt run_neg run_store_float
set_option maxRecDepth 10000 in
set_option maxHeartbeats 16000000 in
theorem rarea_walk (n c f i j : Nat) (a0 b0 d0 a1 b1 d1 a2 b2 d2 a3 b3 d3 : Nat) (w : World) (hi : (i : Int) ≤ 32) (hj : (j : Int) ≤ 32) (ha0 : Hid (a0 < 18446744073709551616)) (hb0 : Hid (b0 < 18446744073709551616)) (hd0 : Hid (d0 < 18446744073709551616)) (ha1 : Hid (a1 < 18446744073709551616)) (hb1 : Hid (b1 < 18446744073709551616)) (hd1 : Hid (d1 < 18446744073709551616)) (ha2 : Hid (a2 < 18446744073709551616)) (hb2 : Hid (b2 < 18446744073709551616)) (hd2 : Hid (d2 < 18446744073709551616)) (ha3 : Hid (a3 < 18446744073709551616)) (hb3 : Hid (b3 < 18446744073709551616)) (hd3 : Hid (d3 < 18446744073709551616))
    (PL : Hid (∀ u, Calls Tryz.prog 97 #[.int .i64 n, .int .i64 c] u fun e w' => e = .returned (.tuple #[.int .i64 f, .int .i64 i, .int .i64 j, .bool true]) ∧ ∃ k, w' = u.drewN k))
    (K0 : Hid (∀ u, Calls Tryz.prog 124 #[.int .i64 n, .int .i64 f, .int .i64 (i : Nat), .int .i64 (j : Nat)] u fun e w' => e = .returned (.tuple #[.agg #[.float .f64 a0, .float .f64 b0, .float .f64 d0], .bool true]) ∧ Below u.heap.size u w'))
    (K1 : Hid (∀ u, Calls Tryz.prog 124 #[.int .i64 n, .int .i64 f, .int .i64 ((i : Nat) + 1), .int .i64 (j : Nat)] u fun e w' => e = .returned (.tuple #[.agg #[.float .f64 a1, .float .f64 b1, .float .f64 d1], .bool true]) ∧ Below u.heap.size u w'))
    (K2 : Hid (∀ u, Calls Tryz.prog 124 #[.int .i64 n, .int .i64 f, .int .i64 ((i : Nat) + 1), .int .i64 ((j : Nat) + 1)] u fun e w' => e = .returned (.tuple #[.agg #[.float .f64 a2, .float .f64 b2, .float .f64 d2], .bool true]) ∧ Below u.heap.size u w'))
    (K3 : Hid (∀ u, Calls Tryz.prog 124 #[.int .i64 n, .int .i64 f, .int .i64 (i : Nat), .int .i64 ((j : Nat) + 1)] u fun e w' => e = .returned (.tuple #[.agg #[.float .f64 a3, .float .f64 b3, .float .f64 d3], .bool true]) ∧ Below u.heap.size u w')) :
    Calls Tryz.prog 99 #[.int .i64 n, .int .i64 c] w fun e w' => e = .returned (.int .i64 (arI (cl (sbB a2 a0) (sbB b2 b0) (sbB d2 d0) (sbB a3 a1) (sbB b3 b1) (sbB d3 d1)))) ∧ Below w.heap.size w w' := by
  have MI := hid (fun x y z u v t w (hx : Hid (x < 18446744073709551616)) (hy : Hid (y < 18446744073709551616)) (hz : Hid (z < 18446744073709551616)) (hu : Hid (u < 18446744073709551616)) (hv : Hid (v < 18446744073709551616)) (ht : Hid (t < 18446744073709551616)) => rminus_at x y z u v t w hx hy hz hu hv ht)
  have CR := hid (fun w => rcross_at (sbB a2 a0) (sbB b2 b0) (sbB d2 d0) (sbB a3 a1) (sbB b3 b1) (sbB d3 d1) w (sbB_lt ha2 ha0) (sbB_lt hb2 hb0) (sbB_lt hd2 hd0) (sbB_lt ha3 ha1) (sbB_lt hb3 hb1) (sbB_lt hd3 hd1))
  have LN : Hid (∀ w, Calls Tryz.prog 125 #[.agg #[.float .f64 (sbB (mlB (sbB b2 b0) (sbB d3 d1)) (mlB (sbB d2 d0) (sbB b3 b1))), .float .f64 (sbB (mlB (sbB d2 d0) (sbB a3 a1)) (mlB (sbB a2 a0) (sbB d3 d1))), .float .f64 (sbB (mlB (sbB a2 a0) (sbB b3 b1)) (mlB (sbB b2 b0) (sbB a3 a1)))]] w fun e w' => e = .returned (.float .f64 (cl (sbB a2 a0) (sbB b2 b0) (sbB d2 d0) (sbB a3 a1) (sbB b3 b1) (sbB d3 d1))) ∧ Below w.heap.size w w') := fun w => rlength_at (sbB (mlB (sbB b2 b0) (sbB d3 d1)) (mlB (sbB d2 d0) (sbB b3 b1))) (sbB (mlB (sbB d2 d0) (sbB a3 a1)) (mlB (sbB a2 a0) (sbB d3 d1))) (sbB (mlB (sbB a2 a0) (sbB b3 b1)) (mlB (sbB b2 b0) (sbB a3 a1))) w (sbB_lt (mlB_lt (sbB_lt hb2 hb0) (sbB_lt hd3 hd1)) (mlB_lt (sbB_lt hd2 hd0) (sbB_lt hb3 hb1))) (sbB_lt (mlB_lt (sbB_lt hd2 hd0) (sbB_lt ha3 ha1)) (mlB_lt (sbB_lt ha2 ha0) (sbB_lt hd3 hd1))) (sbB_lt (mlB_lt (sbB_lt ha2 ha0) (sbB_lt hb3 hb1)) (mlB_lt (sbB_lt hb2 hb0) (sbB_lt ha3 ha1)))
  have lL : cl (sbB a2 a0) (sbB b2 b0) (sbB d2 d0) (sbB a3 a1) (sbB b3 b1) (sbB d3 d1) < 18446744073709551616 := by unfold cl lnB; exact rtB_lt _
  generalize cl (sbB a2 a0) (sbB b2 b0) (sbB d2 d0) (sbB a3 a1) (sbB b3 b1) (sbB d3 d1) = L at *
  generalize sbB (mlB (sbB b2 b0) (sbB d3 d1)) (mlB (sbB d2 d0) (sbB b3 b1)) = c1 at *
  generalize sbB (mlB (sbB d2 d0) (sbB a3 a1)) (mlB (sbB a2 a0) (sbB d3 d1)) = c2 at *
  generalize sbB (mlB (sbB a2 a0) (sbB b3 b1)) (mlB (sbB b2 b0) (sbB a3 a1)) = c3 at *
  have hmx : arI L = max (cI .even (arQ L)) 1 := by unfold arI; with_reducible rfl
  obtain ⟨A, hA⟩ : ∃ A, cI .even (arQ L) = A := ⟨_, rfl⟩
  obtain ⟨ok, hok⟩ : ∃ ok, cOk .even (arQ L) = ok := ⟨_, rfl⟩
  rw [hmx, hA]
  have HA := hid hA
  have HO := hid hok
  clear hmx hA hok
  go_enter Tryz.func99, Tryz.ntmps99
  go_wp2_with fail
  refine Calls.mono (PL.out _) ?_
  rintro e vv ⟨rfl, k1, rfl⟩
  have AW1 : Hid (Ab w (w.drewN k1)) := Ab.drewN (Ab.refl w) _
  go_wp2_with fail
  refine Calls.mono (K0.out _) ?_
  rintro e v2 ⟨rfl, b2⟩
  have AV2 : Hid (Ab w v2) := Ab.call AW1.out b2
  have RA2 : Hid ((v2.alloc (.cells #[.float .f64 a0, .float .f64 b0, .float .f64 d0] 128)).heap[v2.heap.size]? = some (.cells #[.float .f64 a0, .float .f64 b0, .float .f64 d0] 128)) := heap_alloc_new _ _
  have AW2 : Hid (Ab w (v2.alloc (.cells #[.float .f64 a0, .float .f64 b0, .float .f64 d0] 128))) := AV2.out.call (bl1 v2 (.cells #[.float .f64 a0, .float .f64 b0, .float .f64 d0] 128))
  clear b2 AV2 AW1
  go_wp2_with fail
  refine Calls.mono (K1.out _) ?_
  rintro e v3 ⟨rfl, b3⟩
  have AV3 : Hid (Ab w v3) := Ab.call AW2.out b3
  have RA3 : Hid ((v3.alloc (.cells #[.float .f64 a1, .float .f64 b1, .float .f64 d1] 128)).heap[v2.heap.size]? = some (.cells #[.float .f64 a0, .float .f64 b0, .float .f64 d0] 128)) := Ab.heap (bl1 v3 (.cells #[.float .f64 a1, .float .f64 b1, .float .f64 d1] 128)) (Ab.heap b3 RA2.out)
  have RB3 : Hid ((v3.alloc (.cells #[.float .f64 a1, .float .f64 b1, .float .f64 d1] 128)).heap[v3.heap.size]? = some (.cells #[.float .f64 a1, .float .f64 b1, .float .f64 d1] 128)) := heap_alloc_new _ _
  have AW3 : Hid (Ab w (v3.alloc (.cells #[.float .f64 a1, .float .f64 b1, .float .f64 d1] 128))) := AV3.out.call (bl1 v3 (.cells #[.float .f64 a1, .float .f64 b1, .float .f64 d1] 128))
  clear b3 AV3 RA2 AW2
  go_wp2_with fail
  refine Calls.mono (K2.out _) ?_
  rintro e v4 ⟨rfl, b4⟩
  have AV4 : Hid (Ab w v4) := Ab.call AW3.out b4
  have RA4 : Hid ((v4.alloc (.cells #[.float .f64 a2, .float .f64 b2, .float .f64 d2] 128)).heap[v2.heap.size]? = some (.cells #[.float .f64 a0, .float .f64 b0, .float .f64 d0] 128)) := Ab.heap (bl1 v4 (.cells #[.float .f64 a2, .float .f64 b2, .float .f64 d2] 128)) (Ab.heap b4 RA3.out)
  have RB4 : Hid ((v4.alloc (.cells #[.float .f64 a2, .float .f64 b2, .float .f64 d2] 128)).heap[v3.heap.size]? = some (.cells #[.float .f64 a1, .float .f64 b1, .float .f64 d1] 128)) := Ab.heap (bl1 v4 (.cells #[.float .f64 a2, .float .f64 b2, .float .f64 d2] 128)) (Ab.heap b4 RB3.out)
  have RC4 : Hid ((v4.alloc (.cells #[.float .f64 a2, .float .f64 b2, .float .f64 d2] 128)).heap[v4.heap.size]? = some (.cells #[.float .f64 a2, .float .f64 b2, .float .f64 d2] 128)) := heap_alloc_new _ _
  have AW4 : Hid (Ab w (v4.alloc (.cells #[.float .f64 a2, .float .f64 b2, .float .f64 d2] 128))) := AV4.out.call (bl1 v4 (.cells #[.float .f64 a2, .float .f64 b2, .float .f64 d2] 128))
  clear b4 AV4 RA3 RB3 AW3
  go_wp2_with fail
  refine Calls.mono (K3.out _) ?_
  rintro e v5 ⟨rfl, b5⟩
  have AV5 : Hid (Ab w v5) := Ab.call AW4.out b5
  have RA5 : Hid ((v5.alloc (.cells #[.float .f64 a3, .float .f64 b3, .float .f64 d3] 128)).heap[v2.heap.size]? = some (.cells #[.float .f64 a0, .float .f64 b0, .float .f64 d0] 128)) := Ab.heap (bl1 v5 (.cells #[.float .f64 a3, .float .f64 b3, .float .f64 d3] 128)) (Ab.heap b5 RA4.out)
  have RB5 : Hid ((v5.alloc (.cells #[.float .f64 a3, .float .f64 b3, .float .f64 d3] 128)).heap[v3.heap.size]? = some (.cells #[.float .f64 a1, .float .f64 b1, .float .f64 d1] 128)) := Ab.heap (bl1 v5 (.cells #[.float .f64 a3, .float .f64 b3, .float .f64 d3] 128)) (Ab.heap b5 RB4.out)
  have RC5 : Hid ((v5.alloc (.cells #[.float .f64 a3, .float .f64 b3, .float .f64 d3] 128)).heap[v4.heap.size]? = some (.cells #[.float .f64 a2, .float .f64 b2, .float .f64 d2] 128)) := Ab.heap (bl1 v5 (.cells #[.float .f64 a3, .float .f64 b3, .float .f64 d3] 128)) (Ab.heap b5 RC4.out)
  have RD5 : Hid ((v5.alloc (.cells #[.float .f64 a3, .float .f64 b3, .float .f64 d3] 128)).heap[v5.heap.size]? = some (.cells #[.float .f64 a3, .float .f64 b3, .float .f64 d3] 128)) := heap_alloc_new _ _
  have AW5 : Hid (Ab w (v5.alloc (.cells #[.float .f64 a3, .float .f64 b3, .float .f64 d3] 128))) := AV5.out.call (bl1 v5 (.cells #[.float .f64 a3, .float .f64 b3, .float .f64 d3] 128))
  clear b5 AV5 RA4 RB4 RC4 AW4
  go_upto_region 8 with fail
  generalize hW : World.alloc _ _ = W
  have AW : Hid (Ab w W) := by rw [← hW]; exact AW5.out
  have GA : Hid (W.heap[v2.heap.size]? = some (.cells #[.float .f64 a0, .float .f64 b0, .float .f64 d0] 128)) := by rw [← hW]; exact RA5.out
  have GB : Hid (W.heap[v3.heap.size]? = some (.cells #[.float .f64 a1, .float .f64 b1, .float .f64 d1] 128)) := by rw [← hW]; exact RB5.out
  have GC : Hid (W.heap[v4.heap.size]? = some (.cells #[.float .f64 a2, .float .f64 b2, .float .f64 d2] 128)) := by rw [← hW]; exact RC5.out
  have GD : Hid (W.heap[v5.heap.size]? = some (.cells #[.float .f64 a3, .float .f64 b3, .float .f64 d3] 128)) := by rw [← hW]; exact RD5.out
  clear hW AW5 RA5 RB5 RC5 RD5 K0 K1 K2 K3 PL
  obtain ⟨UU, F, hF1, hF2⟩ := cls W
  have HF := hid hF2
  have HF1 := hid hF1
  have xA0 : ∀ vv, (F vv).cell? ⟨v2.heap.size, 0, none⟩ = some (.float .f64 a0) := fun vv => cell_of_row _ _ 0 _ _ _ ((hF1 vv).heap GA.out)
  have xA1 : ∀ vv, (F vv).cell? ⟨v2.heap.size, 1, none⟩ = some (.float .f64 b0) := fun vv => cell_of_row _ _ 1 _ _ _ ((hF1 vv).heap GA.out)
  have xA2 : ∀ vv, (F vv).cell? ⟨v2.heap.size, 2, none⟩ = some (.float .f64 d0) := fun vv => cell_of_row _ _ 2 _ _ _ ((hF1 vv).heap GA.out)
  have xB0 : ∀ vv, (F vv).cell? ⟨v3.heap.size, 0, none⟩ = some (.float .f64 a1) := fun vv => cell_of_row _ _ 0 _ _ _ ((hF1 vv).heap GB.out)
  have xB1 : ∀ vv, (F vv).cell? ⟨v3.heap.size, 1, none⟩ = some (.float .f64 b1) := fun vv => cell_of_row _ _ 1 _ _ _ ((hF1 vv).heap GB.out)
  have xB2 : ∀ vv, (F vv).cell? ⟨v3.heap.size, 2, none⟩ = some (.float .f64 d1) := fun vv => cell_of_row _ _ 2 _ _ _ ((hF1 vv).heap GB.out)
  have xC0 : ∀ vv, (F vv).cell? ⟨v4.heap.size, 0, none⟩ = some (.float .f64 a2) := fun vv => cell_of_row _ _ 0 _ _ _ ((hF1 vv).heap GC.out)
  have xC1 : ∀ vv, (F vv).cell? ⟨v4.heap.size, 1, none⟩ = some (.float .f64 b2) := fun vv => cell_of_row _ _ 1 _ _ _ ((hF1 vv).heap GC.out)
  have xC2 : ∀ vv, (F vv).cell? ⟨v4.heap.size, 2, none⟩ = some (.float .f64 d2) := fun vv => cell_of_row _ _ 2 _ _ _ ((hF1 vv).heap GC.out)
  have xD0 : ∀ vv, (F vv).cell? ⟨v5.heap.size, 0, none⟩ = some (.float .f64 a3) := fun vv => cell_of_row _ _ 0 _ _ _ ((hF1 vv).heap GD.out)
  have xD1 : ∀ vv, (F vv).cell? ⟨v5.heap.size, 1, none⟩ = some (.float .f64 b3) := fun vv => cell_of_row _ _ 1 _ _ _ ((hF1 vv).heap GD.out)
  have xD2 : ∀ vv, (F vv).cell? ⟨v5.heap.size, 2, none⟩ = some (.float .f64 d3) := fun vv => cell_of_row _ _ 2 _ _ _ ((hF1 vv).heap GD.out)
  have D := HF.out _ (Ab.refl W).drew
  clear hF1 hF2
  refine region_cls F (by kernel_rfl) (by kernel_rfl) D ?_
  repeat (go_big_quiet_step (first
    | (with_reducible rfl)
    | (go_at_call 127; exact calls_cls HF HF1 (MI.out _ _ _ _ _ _ _ (by assumption) (by assumption) (by assumption) (by assumption) (by assumption) (by assumption)))
    | (go_at_call 126; exact calls_cls HF HF1 (CR.out _))
    | (go_at_call 125; exact calls_cls HF HF1 (LN.out _))))
  refine wpQuiet_nil ?_
  intro wz hwz
  obtain ⟨vv, hv⟩ := hwz
  have bz : Below W.heap.size W wz := by rw [hv]; exact HF1.out vv
  clear hv vv
  clear HF HF1 D xA0 xA1 xA2 xB0 xB1 xB2 xC0 xC1 xC2 xD0 xD1 xD2
  clear F UU
  have AZ : Hid (Ab w wz) := AW.out.call bz
  clear bz AW GA GB GC GD
  obtain ⟨r1, n1, k1, q1⟩ := mul_any (P := Tryz.prog) wz L _ 4602678819172646912 _ (IsQ.self lL) (IsQ.self (by decide))
  obtain ⟨r2, n2, k2, q2⟩ := mul_any (P := Tryz.prog) (wz.drewN n1) r1 _ 4742290407621132288 _ q1 (IsQ.self (by decide))
  have RO : Hid (∀ u, Calls Tryz.prog 128 #[.float .f64 r2] u fun e w' => e = .returned (.tuple #[.int .i64 A, .bool ok]) ∧ w' = u) := fun u =>
    Ref2.refRound_at r2 A ok u q2.1 (by rw [(cI_q r2).1, q2.2]; exact HA.out) (by rw [(cI_q r2).2, q2.2]; exact HO.out)
  rw [World.drewN_drewN] at k2
  clear q1 q2 HA HO
  go_wp2_with fail
  refine (RO.out _).mono ?_
  rintro e w5 ⟨rfl, rfl⟩
  go_wp2
  all_goals go_ret
  all_goals exact ⟨congrArg (fun z => Ending.returned (.int .i64 z)) (by omega), Ab.drewN AZ.out _⟩
theorem rarea_ok (n c : Nat) (w : World) (hn : 1 ≤ n ∧ n ≤ 32) (hc : c < 6 * n * n) :
    Calls Tryz.prog 99 #[.int .i64 n, .int .i64 c] w fun e w' => e = .returned (.int .i64 (arI (ArC n c))) ∧ Below w.heap.size w w' := by
  obtain ⟨h1, h2, h3, -⟩ := dec_lt hn.1 hc
  have h := rarea_walk n c (cf n c) (ci n c) (cj n c) _ _ _ _ _ _ _ _ _ _ _ _ w (by omega) (by omega) (px_lt n _) (py_lt n _) (pz_lt n _) (px_lt n _) (py_lt n _) (pz_lt n _) (px_lt n _) (py_lt n _) (pz_lt n _) (px_lt n _) (py_lt n _) (pz_lt n _) (fun u => rplace_okN n c hn hc u)
    (fun u => rcorner_ok n (cf n c) (ci n c) (cj n c) u hn h1 (by omega) (by omega)) (fun u => rcorner_ok n (cf n c) (ci n c + 1) (cj n c) u hn h1 (by omega) (by omega))
    (fun u => rcorner_ok n (cf n c) (ci n c + 1) (cj n c + 1) u hn h1 (by omega) (by omega)) (fun u => rcorner_ok n (cf n c) (ci n c) (cj n c + 1) u hn h1 (by omega) (by omega))
  unfold ArC ar
  exact h
set_option maxHeartbeats 8000000 in
theorem rgap_ok (n c s : Nat) (w : World) (hn : 1 ≤ n ∧ n ≤ 32) (hc : c < 6 * n * n) (hs : s < 4) :
    Calls Tryz.prog 69 #[.int .i64 n, .int .i64 c, .int .i64 s] w fun e w' => e = .returned (.float .f64 (GpC n c s)) ∧ Below w.heap.size w w' := by
  obtain ⟨hb, -⟩ := bs_lt hn.1 hc hs
  have BE := hid (fun u => rbeside_at n c s u hn hc hs)
  have M1 := hid (fun u => rmiddle8_ok n c u hn hc)
  have M2 := hid (fun u => rmiddle8_ok n (bsC n c s) u hn hb)
  have GA : Hid (∀ u, Calls Tryz.prog 101 #[.agg #[.float .f64 (px n (MD n c)), .float .f64 (py n (MD n c)), .float .f64 (pz n (MD n c))], .agg #[.float .f64 (px n (MD n (bsC n c s))), .float .f64 (py n (MD n (bsC n c s))), .float .f64 (pz n (MD n (bsC n c s)))]] u fun e w' => e = .returned (.float .f64 (GpC n c s)) ∧ Below u.heap.size u w') := fun u => rgap_at _ _ _ _ _ _ u (px_lt _ _) (py_lt _ _) (pz_lt _ _) (px_lt _ _) (py_lt _ _) (pz_lt _ _)
  generalize px n (MD n c) = x at *
  generalize py n (MD n c) = y at *
  generalize pz n (MD n c) = z at *
  generalize px n (MD n (bsC n c s)) = x' at *
  generalize py n (MD n (bsC n c s)) = y' at *
  generalize pz n (MD n (bsC n c s)) = z' at *
  generalize GpC n c s = G at *
  generalize bsC n c s = c' at *
  generalize bsS n c s = s' at *
  clear hn hc hs hb
  go_enter Tryz.func69, Tryz.ntmps69
  go_wp2_with fail
  refine Calls.mono (BE.out _) ?_
  rintro e v1 ⟨rfl, b1⟩
  have AV1 : Hid (Ab w v1) := Ab.call (Ab.refl w) b1
  have AW1 : Hid (Ab w v1) := AV1.out
  clear b1 AV1
  go_wp2_with fail
  refine Calls.mono (M1.out _) ?_
  rintro e v2 ⟨rfl, b2⟩
  have AV2 : Hid (Ab w v2) := Ab.call AW1.out b2
  have RA2 : Hid ((v2.alloc (.cells #[.float .f64 x, .float .f64 y, .float .f64 z] 128)).heap[v2.heap.size]? = some (.cells #[.float .f64 x, .float .f64 y, .float .f64 z] 128)) := heap_alloc_new _ _
  have AW2 : Hid (Ab w (v2.alloc (.cells #[.float .f64 x, .float .f64 y, .float .f64 z] 128))) := AV2.out.call (bl1 v2 (.cells #[.float .f64 x, .float .f64 y, .float .f64 z] 128))
  clear b2 AV2 AW1
  go_wp2_with fail
  refine Calls.mono (M2.out _) ?_
  rintro e v3 ⟨rfl, b3⟩
  have AV3 : Hid (Ab w v3) := Ab.call AW2.out b3
  have RA3 : Hid ((v3.alloc (.cells #[.float .f64 x', .float .f64 y', .float .f64 z'] 128)).heap[v2.heap.size]? = some (.cells #[.float .f64 x, .float .f64 y, .float .f64 z] 128)) := Ab.heap (bl1 v3 (.cells #[.float .f64 x', .float .f64 y', .float .f64 z'] 128)) (Ab.heap b3 RA2.out)
  have RB3 : Hid ((v3.alloc (.cells #[.float .f64 x', .float .f64 y', .float .f64 z'] 128)).heap[v3.heap.size]? = some (.cells #[.float .f64 x', .float .f64 y', .float .f64 z'] 128)) := heap_alloc_new _ _
  have AW3 : Hid (Ab w (v3.alloc (.cells #[.float .f64 x', .float .f64 y', .float .f64 z'] 128))) := AV3.out.call (bl1 v3 (.cells #[.float .f64 x', .float .f64 y', .float .f64 z'] 128))
  clear b3 AV3 RA2 AW2
  obtain ⟨-, xA0, xA1, xA2⟩ := rowfacts RA3.out
  obtain ⟨-, xB0, xB1, xB2⟩ := rowfacts RB3.out
  go_wp2_with fail
  refine Calls.mono (GA.out _) ?_
  rintro e v4 ⟨rfl, b4⟩
  clear xA0 xA1 xA2 xB0 xB1 xB2
  have AV4 : Hid (Ab w v4) := Ab.call AW3.out b4
  have RA4 : Hid (v4.heap[v2.heap.size]? = some (.cells #[.float .f64 x, .float .f64 y, .float .f64 z] 128)) := Ab.heap b4 RA3.out
  have RB4 : Hid (v4.heap[v3.heap.size]? = some (.cells #[.float .f64 x', .float .f64 y', .float .f64 z'] 128)) := Ab.heap b4 RB3.out
  have AW4 : Hid (Ab w v4) := AV4.out
  clear b4 AV4 RA3 RB3 AW3
  go_wp2
  go_ret
  exact ⟨rfl, AW4.out⟩
end Go.Proofs.YtgalgnjgpmcngaaGreatDoor

namespace Go.Proofs.YtgalgnjgpmcngaaGreatDoor
open Go.RowKit Cu Tf
attribute [local go_sem] run_store_float
/-- the document's net of side n lies in block rb -/
def RefOf (n rb : Nat) (w : World) : Prop := ∃ ab eb cap, w.heap[rb]? = some (.cells #[.int .i64 n, .slice (some ⟨eb, 0, none⟩) (12 * n * n) cap, .slice (some ⟨ab, 0, none⟩) (24 * n * n) (24 * n * n)] 78) ∧ EG w n eb ∧ w.rowIs ab 3 (24 * n * n) (fun t => .int .i64 (eE n t : Nat))
theorem RefOf.to {n rb : Nat} {w w' : World} (h : RefOf n rb w) (a : Ab w w') : RefOf n rb w' := by
  obtain ⟨ab, eb, cap, h1, h2, h3⟩ := h
  exact ⟨ab, eb, cap, a.heap h1, h2.to a, rowIs.ab h3 a⟩
theorem RE.all {B n rb ab : Nat} {es : Value} {w : World} (hn : 1 ≤ n) (h : RE B n (24 * n * n) (24 * n * n) rb ab es w) : RefOf n rb w := by
  obtain ⟨h1, h2, h3, h4, h5, h6⟩ := h
  have hh := h2
  have hpos : 0 < 12 * n * n := Nat.mul_pos (by omega) (by omega)
  rw [eN_all hn] at hh
  rcases hh.2 with ⟨rfl, h0⟩ | ⟨g, cap, cur, rfl, hb, hg, k1, k2, k3, k4⟩
  · omega
  · refine ⟨ab, g, cap, h1, ⟨lt_of_block hg, fun t ht hl => ?_⟩, h3.congr (fun t ht => by rw [rA_end hn ht])⟩
    have hc : ∀ j < 4, ∀ u, (edV n t)[j]? = some u → w.cell? ⟨g, eN n t * 4 + j, none⟩ = some u := by
      intro j hj u hu
      have := hh.cells (g := g) rfl (eN n t * 4 + j) u (by rw [edL_at ht hl hj]; exact hu)
      have ha : (⟨g, 0, none⟩ : Addr).add (eN n t * 4 + j) = ⟨g, eN n t * 4 + j, none⟩ := by unfold Addr.add; split <;> simp_all
      rwa [ha] at this
    exact ⟨hc 0 (by omega) _ rfl, hc 1 (by omega) _ rfl, hc 2 (by omega) _ rfl, hc 3 (by omega) _ rfl⟩
theorem rnew_no (n : Int) (w : World) (h : ¬ (1 ≤ n ∧ n ≤ 32)) :
    Calls Tryz.prog 10 #[.int .i64 n] w fun e w' => e = .returned (.tuple #[.pointer none, .int .i64 10]) ∧ w' = w := by
  have CE := hid (fun u => rcells_at n u)
  have hz : clN n = 0 := by unfold clN; rw [if_neg h]
  rw [hz] at CE
  clear h hz
  go_enter Tryz.func10, Tryz.ntmps10
  go_wp2_with (go_at_call 33; refine (CE.out _).mono ?_; rintro e w' ⟨rfl, hw⟩; have hw2 := hw.symm; subst hw2)
  go_ret2
  exact ⟨rfl, rfl⟩
theorem rSide_at {n rb : Nat} {w : World} (g : RefOf n rb w) : Calls Tryz.prog 98 #[.pointer (some ⟨rb, 0, none⟩)] w fun e w' => e = .returned (.int .i64 n) ∧ w' = w := by
  obtain ⟨ab, eb, cap, h1, -⟩ := g
  have c0 := cell_of_row _ _ 0 _ _ _ h1
  clear h1
  go_enter Tryz.func98, Tryz.ntmps98
  go_wp2
  go_ret
  exact ⟨rfl, rfl⟩
theorem rCells_at {n rb : Nat} {w : World} (hn : 1 ≤ n ∧ n ≤ 32) (g : RefOf n rb w) : Calls Tryz.prog 66 #[.pointer (some ⟨rb, 0, none⟩)] w fun e w' => e = .returned (.int .i64 (6 * n * n : Nat)) ∧ w' = w := by
  have SI := hid (rSide_at g)
  have CE := hid (fun u => rcells_at n u)
  rw [clN_nat hn] at CE
  generalize 6 * n * n = N at *
  clear g hn
  go_enter Tryz.func66, Tryz.ntmps66
  go_wp2_with (first
    | (go_at_call 98; refine SI.out.mono ?_; rintro e w' ⟨rfl, hw⟩; have hw2 := hw.symm; subst hw2)
    | (go_at_call 33; refine (CE.out _).mono ?_; rintro e w' ⟨rfl, hw⟩; have hw2 := hw.symm; subst hw2))
  go_ret
  exact ⟨rfl, rfl⟩
theorem rEdges_at {n rb : Nat} {w : World} (g : RefOf n rb w) : Calls Tryz.prog 36 #[.pointer (some ⟨rb, 0, none⟩)] w fun e w' => e = .returned (.int .i64 (12 * n * n : Nat)) ∧ w' = w := by
  obtain ⟨ab, eb, cap, h1, -⟩ := g
  have c1 := cell_of_row _ _ 1 _ _ _ h1
  simp at c1
  clear h1
  generalize 12 * n * n = M at *
  go_enter Tryz.func36, Tryz.ntmps36
  go_wp2
  go_ret
  exact ⟨rfl, rfl⟩
set_option maxHeartbeats 2000000 in
theorem rEdge_ok {n rb t : Nat} {w : World} (hn : 1 ≤ n ∧ n ≤ 32) (ht : t < 24 * n * n) (hl : isL n t = true) (g : RefOf n rb w) :
    Calls Tryz.prog 37 #[.pointer (some ⟨rb, 0, none⟩), .int .i64 (eN n t : Nat)] w fun e w' => e = .returned (.tuple #[.agg #[.int .i64 (t / 4 : Nat), .int .i64 (t % 4 : Nat), .int .i64 (bsC n (t / 4) (t % 4) : Nat), .int .i64 (bsS n (t / 4) (t % 4) : Nat)], .bool true]) ∧ Below w.heap.size w w' := by
  have E1 := hid (rEdges_at (g.to (bl1 w (.cells #[.int .i64 0, .int .i64 0, .int .i64 0, .int .i64 0] 82))))
  obtain ⟨ab, eb, cap, h1, h2, -⟩ := g
  have c1 := cell_of_row _ _ 1 _ _ _ h1
  simp at c1
  obtain ⟨y0, y1, y2, y3⟩ := h2.2 t ht hl
  have lg := lt_of_block h1
  have le := h2.1
  have kN := ed_lt hn.1 ht hl
  generalize bsC n (t / 4) (t % 4) = d at *
  generalize bsS n (t / 4) (t % 4) = b at *
  generalize t / 4 = c at *
  generalize t % 4 = s at *
  generalize eN n t = k at *
  generalize 12 * n * n = M at *
  have hk1 : (k : Int) < M := by omega
  clear h1 h2 hn ht hl
  go_enter Tryz.func37, Tryz.ntmps37
  go_wp2_with (go_at_call 36; refine (E1.out).mono ?_; rintro e w' ⟨rfl, hw⟩; have hw2 := hw.symm; subst hw2)
  refine bodyPost_ret ?_ rfl ⟨rfl, ?_⟩
  · exact res_two Tryz.results37 _ _ w.heap.size _ _ (0, 0) _ _ rfl rfl (heap_alloc_new w _) Tryz.underlying82 rfl (by kernel_rfl)
  · exact bl1 w _
set_option maxHeartbeats 2000000 in
theorem rEdge_no {n rb : Nat} {k : Int} {w : World} (hk : inR k (12 * n * n : Nat) = false) (g : RefOf n rb w) :
    Calls Tryz.prog 37 #[.pointer (some ⟨rb, 0, none⟩), .int .i64 k] w fun e w' => e = .returned (.tuple #[.agg #[.int .i64 0, .int .i64 0, .int .i64 0, .int .i64 0], .bool false]) ∧ Below w.heap.size w w' := by
  have E1 := hid (rEdges_at (g.to (bl1 w (.cells #[.int .i64 0, .int .i64 0, .int .i64 0, .int .i64 0] 82))))
  rw [inR_no] at hk
  generalize 12 * n * n = M at *
  clear g
  by_cases h0 : k < 0
  · clear hk
    go_enter Tryz.func37, Tryz.ntmps37
    go_wp2_with (go_at_call 36; refine (E1.out).mono ?_; rintro e w' ⟨rfl, hw⟩; have hw2 := hw.symm; subst hw2)
    refine bodyPost_ret ?_ rfl ⟨rfl, bl1 w _⟩
    exact res_two Tryz.results37 _ _ w.heap.size _ _ (0, 0) _ _ rfl rfl (heap_alloc_new w _) Tryz.underlying82 rfl (by kernel_rfl)
  · have h1 : (M : Int) ≤ k := by omega
    clear hk
    go_enter Tryz.func37, Tryz.ntmps37
    go_wp2_with (go_at_call 36; refine (E1.out).mono ?_; rintro e w' ⟨rfl, hw⟩; have hw2 := hw.symm; subst hw2)
    refine bodyPost_ret ?_ rfl ⟨rfl, bl1 w _⟩
    exact res_two Tryz.results37 _ _ w.heap.size _ _ (0, 0) _ _ rfl rfl (heap_alloc_new w _) Tryz.underlying82 rfl (by kernel_rfl)
end Go.Proofs.YtgalgnjgpmcngaaGreatDoor

namespace Go.Proofs.YtgalgnjgpmcngaaGreatDoor
open Go.RowKit Cu Tf
attribute [local go_sem] run_store_float
theorem RefOf.c0 {n rb : Nat} {w : World} (h : RefOf n rb w) : w.cell? ⟨rb, 0, none⟩ = some (.int .i64 n) := by
  obtain ⟨ab, eb, cap, h1, -⟩ := h
  exact cell_of_row _ _ 0 _ _ _ h1
theorem rArea_at {n rb : Nat} {c V : Int} {w : World} (A1 : ∀ u, Calls Tryz.prog 99 #[.int .i64 n, .int .i64 c] u fun e w' => e = .returned (.int .i64 V) ∧ Below u.heap.size u w') (g : RefOf n rb w) :
    Calls Tryz.prog 68 #[.pointer (some ⟨rb, 0, none⟩), .int .i64 c] w fun e w' => e = .returned (.int .i64 V) ∧ Below w.heap.size w w' := by
  have SI := hid (rSide_at g)
  have AA := hid A1
  clear g A1
  go_enter Tryz.func68, Tryz.ntmps68
  go_wp2_with (first
    | (go_at_call 98; refine SI.out.mono ?_; rintro e w' ⟨rfl, hw⟩; have hw2 := hw.symm; subst hw2)
    | (go_at_call 99; refine (AA.out _).mono ?_; rintro e v1 ⟨rfl, b1⟩))
  go_ret
  exact ⟨rfl, b1⟩
set_option maxHeartbeats 4000000 in
theorem rGap_ok {n rb t : Nat} {w : World} (hn : 1 ≤ n ∧ n ≤ 32) (ht : t < 24 * n * n) (hl : isL n t = true) (g : RefOf n rb w) :
    Calls Tryz.prog 39 #[.pointer (some ⟨rb, 0, none⟩), .int .i64 (eN n t : Nat)] w fun e w' => e = .returned (.float .f64 (GpC n (t / 4) (t % 4))) ∧ Below w.heap.size w w' := by
  have hc := t_cell ht
  have EG1 := hid (fun v (g : RefOf n rb v) => rEdge_ok hn ht hl g)
  have L1 := hid (fun u => rgap_ok n (t / 4) (t % 4) u hn hc (by omega))
  generalize GpC n (t / 4) (t % 4) = L at *
  generalize bsC n (t / 4) (t % 4) = d at *
  generalize bsS n (t / 4) (t % 4) = o at *
  generalize t / 4 = c at *
  generalize t % 4 = s at *
  generalize eN n t = k at *
  have Q0 := hid g
  have AW0 := hid (Ab.refl w)
  clear hn ht hl g hc
  go_enter Tryz.func39, Tryz.ntmps39
  go_wp2_with fail
  refine Calls.mono (EG1.out _ Q0.out) ?_
  rintro e v1 ⟨rfl, b1⟩
  have ST : Hid (Ab w (v1.alloc (.cells #[.int .i64 c, .int .i64 s, .int .i64 d, .int .i64 o] 82))) := Ab.call (show Ab _ _ from b1) (bl1 v1 (.cells #[.int .i64 c, .int .i64 s, .int .i64 d, .int .i64 o] 82))
  have AW1 : Hid (Ab w (v1.alloc (.cells #[.int .i64 c, .int .i64 s, .int .i64 d, .int .i64 o] 82))) := (AW0.out).trans ST.out
  have Q1 : Hid (RefOf n rb (v1.alloc (.cells #[.int .i64 c, .int .i64 s, .int .i64 d, .int .i64 o] 82))) := Q0.out.to ST.out
  have RX1 : Hid ((v1.alloc (.cells #[.int .i64 c, .int .i64 s, .int .i64 d, .int .i64 o] 82)).heap[v1.heap.size]? = some (.cells #[.int .i64 c, .int .i64 s, .int .i64 d, .int .i64 o] 82)) := heap_alloc_new _ _
  clear ST Q0 AW0
  clear b1
  go_upto_region 4 with fail
  obtain ⟨UU, F, hF1, hF2⟩ := cls (v1.alloc (.cells #[.int .i64 c, .int .i64 s, .int .i64 d, .int .i64 o] 82))
  have HU := hid hF2
  have HU1 := hid hF1
  have xr0 : ∀ u, (F u).cell? ⟨rb, 0, none⟩ = some (.int .i64 n) := fun u => (Q1.out.to (hF1 u)).c0
  have xX0 : ∀ u, (F u).cell? ⟨v1.heap.size, 0, none⟩ = some (.int .i64 c) := fun u => cell_of_row _ _ 0 _ _ _ ((hF1 u).heap RX1.out)
  have xX1 : ∀ u, (F u).cell? ⟨v1.heap.size, 1, none⟩ = some (.int .i64 s) := fun u => cell_of_row _ _ 1 _ _ _ ((hF1 u).heap RX1.out)
  have xX2 : ∀ u, (F u).cell? ⟨v1.heap.size, 2, none⟩ = some (.int .i64 d) := fun u => cell_of_row _ _ 2 _ _ _ ((hF1 u).heap RX1.out)
  have xX3 : ∀ u, (F u).cell? ⟨v1.heap.size, 3, none⟩ = some (.int .i64 o) := fun u => cell_of_row _ _ 3 _ _ _ ((hF1 u).heap RX1.out)
  have D := HU.out _ (Ab.refl (v1.alloc (.cells #[.int .i64 c, .int .i64 s, .int .i64 d, .int .i64 o] 82))).drew
  clear hF1 hF2
  refine region_cls F (by kernel_rfl) (by kernel_rfl) D ?_
  repeat (go_big_quiet_step (first
    | (with_reducible rfl)
    | (go_at_call 69; exact calls_cls HU HU1 (L1.out _))))
  refine wpQuiet_nil ?_
  intro wz4 hwz
  obtain ⟨u, hu⟩ := hwz
  have bz : Ab (v1.alloc (.cells #[.int .i64 c, .int .i64 s, .int .i64 d, .int .i64 o] 82)) wz4 := by rw [hu]; exact HU1.out u
  clear hu u
  clear HU HU1 D xr0 xX0 xX1 xX2 xX3
  clear F UU
  have ST : Hid (Ab (v1.alloc (.cells #[.int .i64 c, .int .i64 s, .int .i64 d, .int .i64 o] 82)) wz4) := bz
  have AW2 : Hid (Ab w wz4) := (AW1.out).trans ST.out
  have RX2 : Hid (wz4.heap[v1.heap.size]? = some (.cells #[.int .i64 c, .int .i64 s, .int .i64 d, .int .i64 o] 82)) := Ab.heap ST.out RX1.out
  have Q2 : Hid (RefOf n rb wz4) := Q1.out.to ST.out
  clear ST RX1 Q1 AW1
  clear bz
  go_wp2
  go_ret
  exact ⟨rfl, AW2.out⟩
end Go.Proofs.YtgalgnjgpmcngaaGreatDoor

namespace Go.Proofs.YtgalgnjgpmcngaaGreatDoor
open Go.RowKit Cu Tf
attribute [local go_sem] run_store_float
theorem inR_0 (k : Int) : inR k 0 = false := by rw [inR_no]; omega
theorem nEdges (w : World) : Calls Tryz.prog 17 #[.pointer none] w fun e w' => e = .returned (.int .i64 0) ∧ w' = w := by
  go_enter Tryz.func17, Tryz.ntmps17
  go_wp2
  go_ret
  exact ⟨rfl, rfl⟩
set_option maxHeartbeats 1000000 in
theorem nEdge (k : Int) (w : World) : Calls Tryz.prog 45 #[.pointer none, .int .i64 k] w fun e w' => e = .returned (.tuple #[.agg #[.int .i64 0, .int .i64 0, .int .i64 0, .int .i64 0], .bool false]) ∧ Below w.heap.size w w' := by
  have E1 := hid (fun u => nEdges u)
  have C1 := hid (fun u => gcounts_at k 0 u)
  rw [inR_0] at C1
  go_enter Tryz.func45, Tryz.ntmps45
  go_wp2_with (first
    | (go_at_call 17; refine (E1.out _).mono ?_; rintro e w' ⟨rfl, hw⟩; have hw2 := hw.symm; subst hw2)
    | (go_at_call 74; refine (C1.out _).mono ?_; rintro e w' ⟨rfl, hw⟩; have hw2 := hw.symm; subst hw2))
  refine bodyPost_ret ?_ rfl ⟨rfl, bl1 w _⟩
  exact res_two Tryz.results45 _ _ w.heap.size _ _ (0, 0) _ _ rfl rfl (heap_alloc_new w _) Tryz.underlying82 rfl (by kernel_rfl)
end Go.Proofs.YtgalgnjgpmcngaaGreatDoor
