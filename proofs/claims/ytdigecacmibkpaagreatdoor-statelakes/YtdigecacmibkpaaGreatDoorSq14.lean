/-
  Some of the texts of this proof, one behind the other.
-/
import Derived.WalkKit
import Derived.Test.YtdigecacmibkpaaGreatDoorSq13
set_option maxRecDepth 100000
set_option maxHeartbeats 400000000
namespace Go.Proofs.YtdigecacmibkpaaGreatDoor.Ref2
open Go.RowKit Tf
attribute [local go_sem] run_bits run_from raw_feq raw_fne raw_flt raw_fgt run_neg
theorem small52 (m : Nat) (e : Int) (r : Nat) (w : World) (hm : m <= 9223372036854775808) (e0 : -1074 <= e) (e1 : e <= 900) (hr : min (rung 52 0 (m * 2 ^ (e + 1074).toNat)) 9218868437227405312 = r) :
    Calls Tryz.prog 135 #[.int .u64 (m : Nat), .int .i64 e, .int .i64 52, .int .i64 (-1074), .int .u64 9218868437227405312] w fun e w' => e = .returned (.int .u64 (r : Nat)) /\ w' = w := by
  refine small_at m 52 9218868437227405312 e (-1074) r w hm (.inr e0) (by decide) (by omega) (by omega) (by decide) (by decide) (fun u hu => by omega) ?_
  have h1 : ((-1074 : Int) - e).toNat = 0 := by omega
  have h2 : (e - (-1074)).toNat = (e + 1074).toNat := by omega
  rw [h1, h2]; exact hr
theorem fi_pos (i : Int) (m r : Nat) (w : World) (h : ¬ i < 0) (hi : IntKind.u64.wrap i = (m : Int)) (hw : IntKind.u64.wrap (r : Int) = (r : Int)) (S : Hid (∀ w, Calls Tryz.prog 135 #[.int .u64 (m : Nat), .int .i64 0, .int .i64 52, .int .i64 (-1074), .int .u64 9218868437227405312] w fun e w' => e = .returned (.int .u64 (r : Nat)) /\ w' = w)) :
    Calls Tryz.prog 109 #[.int .i64 i] w fun e w' => e = .returned (.float .f64 r) /\ w' = w := by
  go_enter Tryz.func109, Tryz.ntmps109
  go_wp2_with fail
  refine (S.out _).mono ?_
  rintro e w' ⟨rfl, rfl⟩
  go_wp2_with fail
  refine (from_at (r : Int) r _ (by omega)).mono ?_
  rintro e w' ⟨rfl, rfl⟩
  go_wp2
  go_ret
  exact ⟨rfl, rfl⟩
theorem fi_neg (i : Int) (a m r s : Nat) (w : World) (h : i < 0) (hi : IntKind.u64.wrap i = (a : Int)) (ha : IntKind.u64.wrap (-(a : Int)) = (m : Int)) (hw : IntKind.u64.wrap (9223372036854775808 + (r : Int)) = (s : Int)) (S : Hid (∀ w, Calls Tryz.prog 135 #[.int .u64 (m : Nat), .int .i64 0, .int .i64 52, .int .i64 (-1074), .int .u64 9218868437227405312] w fun e w' => e = .returned (.int .u64 (r : Nat)) /\ w' = w)) :
    Calls Tryz.prog 109 #[.int .i64 i] w fun e w' => e = .returned (.float .f64 s) /\ w' = w := by
  go_enter Tryz.func109, Tryz.ntmps109
  go_wp2_with fail
  refine (S.out _).mono ?_
  rintro e w' ⟨rfl, rfl⟩
  go_wp2_with fail
  refine (from_at (s : Int) s _ (by omega)).mono ?_
  rintro e w' ⟨rfl, rfl⟩
  go_wp2
  go_ret
  exact ⟨rfl, rfl⟩
theorem refFromInt_at (i : Int) (r : Nat) (w : World) (i0 : -9223372036854775808 <= i) (i1 : i <= 9223372036854775807) (hr : rn false (i * one) = r) :
    Calls Tryz.prog 109 #[.int .i64 i] w fun e w' => e = .returned (.float .f64 r) /\ w' = w := by
  have hK : (1074 : Nat) = K := rfl
  have hab : (i * (one : Int)).natAbs = i.natAbs * one := by rw [Int.natAbs_mul, Int.natAbs_natCast]
  have ho : ((0 : Int) + 1074).toNat = K := by rw [K_eq]; decide
  have hs := fun w => small52 i.natAbs 0 _ w (by omega) (by decide) (by decide) rfl
  rw [ho, <- one_pow] at hs
  have hlt : min (rung 52 0 (i.natAbs * one)) 9218868437227405312 <= 9218868437227405312 := Nat.min_le_right _ _
  have hp := onep
  have hrn : rn false (i * one) = if i < 0 then 9223372036854775808 + min (rung 52 0 (i.natAbs * one)) 9218868437227405312 else min (rung 52 0 (i.natAbs * one)) 9218868437227405312 := by
    unfold rn
    rw [hab]
    have h2 : (if i * (one : Int) = 0 then false else decide (i * (one : Int) < 0)) = decide (i < 0) := by
      by_cases c : i = 0
      · subst c; simp
      · have c' : ¬ i * (one : Int) = 0 := by rw [Int.mul_eq_zero]; omega
        rw [if_neg c']
        have : i * (one : Int) < 0 ↔ i < 0 := by
          have : i * (one : Int) < 0 * (one : Int) ↔ i < 0 := Int.mul_lt_mul_right hp
          rwa [Int.zero_mul] at this
        exact decide_eq_decide.2 this
    rw [h2]
    by_cases c : i < 0
    · rw [decide_eq_true c, if_pos rfl, if_pos c]
    · rw [decide_eq_false c, if_neg (by decide), if_neg c]
  rw [hrn] at hr
  generalize min (rung 52 0 (i.natAbs * one)) 9218868437227405312 = q at *
  by_cases c : i < 0
  · rw [if_pos c] at hr
    subst hr
    have w1 : IntKind.u64.wrap i = ((18446744073709551616 - i.natAbs : Nat) : Int) := by
      simp [IntKind.wrap, IntKind.bits, IntKind.signed]; omega
    have w2 : IntKind.u64.wrap (-((18446744073709551616 - i.natAbs : Nat) : Int)) = (i.natAbs : Int) := by
      simp [IntKind.wrap, IntKind.bits, IntKind.signed]; omega
    exact fi_neg i _ _ q (9223372036854775808 + q) w c w1 w2 (by rw [wrap_id] <;> omega) hs
  · rw [if_neg c] at hr
    subst hr
    exact fi_pos i i.natAbs q w c (by rw [wrap_id] <;> omega) (by rw [wrap_id] <;> omega) hs
end Go.Proofs.YtdigecacmibkpaaGreatDoor.Ref2

namespace Go.Proofs.YtdigecacmibkpaaGreatDoor
open Go.RowKit Tf Cu
attribute [local go_sem] run_bits run_from raw_feq raw_fne raw_flt raw_fgt run_neg run_store_float
def fC (f : Nat) : Int := [1, 2, -1, -2, 3, -3].getD f 0
def fR (f : Nat) : Int := [2, -1, -2, 1, 2, 2].getD f 0
def fU (f : Nat) : Int := [3, 3, 3, 3, -1, 1].getD f 0
theorem rframe8_at (f : Nat) (w : World) (hf : f < 6) :
    Calls Tryz.prog 183 #[.int .i64 f] w fun e w' => e = .returned (.tuple #[.int .i64 (fC f), .int .i64 (fR f), .int .i64 (fU f)]) /\ Below w.heap.size w w' := by
  rcases six hf with rfl | rfl | rfl | rfl | rfl | rfl
  all_goals
    go_enter Tryz.func183, Tryz.ntmps183
    go_wp2
    go_quiet (fail)
    go_wp2
    refine bodyPost_ret (by simp [results, Tryz.results183, go_sem]; exact ⟨rfl, rfl, rfl⟩) rfl ⟨rfl, ?_⟩
    exact Ab.drewN (bl3 w _ _ _) _
def alV (a b : Int) (x : Nat) : Nat := if a = b then x else if a = -b then negB x else 0
def alO (a b : Int) : Bool := decide (a = b) || decide (a = -b)
theorem ralong8_at (a b : Int) (x : Nat) (w : World) (hx : x < 18446744073709551616) (ha : -3 <= a /\ a <= 3) (hb : -3 <= b /\ b <= 3) :
    Calls Tryz.prog 184 #[.int .i64 a, .int .i64 b, .float .f64 x] w fun e w' => e = .returned (.tuple #[.float .f64 (alV a b x), .bool (alO a b)]) /\ w' = w := by
  have n0 := negFloat_eq x hx
  clear hx
  by_cases h1 : a = b
  · have e1 : alV a b x = x := by unfold alV; rw [if_pos h1]
    have e2 : alO a b = true := by unfold alO; rw [decide_eq_true h1]; rfl
    rw [e1, e2]
    clear e1 e2
    go_enter Tryz.func184, Tryz.ntmps184
    go_wp2
    go_ret2
    exact ⟨rfl, rfl⟩
  · by_cases h2 : a = -b
    · have e1 : alV a b x = negB x := by unfold alV; rw [if_neg h1, if_pos h2]
      have e2 : alO a b = true := by unfold alO; rw [decide_eq_true h2, Bool.or_true]
      rw [e1, e2]
      clear e1 e2
      go_enter Tryz.func184, Tryz.ntmps184
      go_wp2
      go_ret2
      exact ⟨rfl, rfl⟩
    · have e1 : alV a b x = 0 := by unfold alV; rw [if_neg h1, if_neg h2]
      have e2 : alO a b = false := by unfold alO; rw [decide_eq_false h1, decide_eq_false h2]; rfl
      rw [e1, e2]
      clear e1 e2
      go_enter Tryz.func184, Tryz.ntmps184
      go_wp2
      go_ret2
      exact ⟨rfl, rfl⟩
def cmp (f : Nat) (b : Int) (p q : Nat) : Nat := if alO (fC f) b then alV (fC f) b 4607182418800017408 else if alO (fR f) b then alV (fR f) b p else alV (fU f) b q
theorem cmp_oc {f : Nat} (hf : f < 6) (p q : Nat) : cmp f 1 p q = (oc f p q).1 /\ cmp f 2 p q = (oc f p q).2.1 /\ cmp f 3 p q = (oc f p q).2.2 := by
  rcases six hf with rfl | rfl | rfl | rfl | rfl | rfl <;> simp [cmp, alO, alV, fC, fR, fU, oc] <;> decide
theorem fr_le {f : Nat} (hf : f < 6) : (-3 <= fC f /\ fC f <= 3) /\ (-3 <= fR f /\ fR f <= 3) /\ (-3 <= fU f /\ fU f <= 3) := by
  rcases six hf with rfl | rfl | rfl | rfl | rfl | rfl <;> decide
theorem rcomp8_at (f : Nat) (b : Int) (p q : Nat) (w : World) (hf : f < 6) (hb : -3 <= b /\ b <= 3) (hp : p < 18446744073709551616) (hq : q < 18446744073709551616) :
    Calls Tryz.prog 173 #[.int .i64 f, .int .i64 b, .float .f64 p, .float .f64 q] w fun e w' => e = .returned (.float .f64 (canonB (cmp f b p q))) /\ Below w.heap.size w w' := by
  obtain ⟨k1, k2, k3⟩ := fr_le hf
  have FR := hid (fun u => rframe8_at f u hf)
  have A1 := hid (fun u => ralong8_at (fC f) b 4607182418800017408 u (by omega) k1 hb)
  have A2 := hid (fun u => ralong8_at (fR f) b p u hp k2 hb)
  have A3 := hid (fun u => ralong8_at (fU f) b q u hq k3 hb)
  have C1 := hid (fun u => rcanon_any (alV (fC f) b 4607182418800017408) u)
  have C2 := hid (fun u => rcanon_any (alV (fR f) b p) u)
  have C3 := hid (fun u => rcanon_any (alV (fU f) b q) u)
  unfold cmp
  generalize alV (fC f) b 4607182418800017408 = x1 at *
  generalize alV (fR f) b p = x2 at *
  generalize alV (fU f) b q = x3 at *
  generalize alO (fC f) b = o1 at *
  generalize alO (fR f) b = o2 at *
  generalize alO (fU f) b = o3 at *
  generalize fC f = c at *
  generalize fR f = r at *
  generalize fU f = u at *
  clear hf hb hp hq k1 k2 k3
  cases o1 with
  | true =>
    rw [if_pos rfl]
    go_enter Tryz.func173, Tryz.ntmps173
    go_wp2_with fail
    refine (FR.out _).mono ?_
    rintro e v ⟨rfl, b1⟩
    go_wp2_with fail
    refine (A1.out _).mono ?_
    rintro e v2 ⟨rfl, rfl⟩
    go_wp2_with fail
    refine (C1.out _).mono ?_
    rintro e v3 ⟨rfl, rfl⟩
    go_wp2
    go_ret
    exact ⟨rfl, b1⟩
  | false =>
    rw [if_neg Bool.false_ne_true]
    cases o2 with
    | true =>
      rw [if_pos rfl]
      go_enter Tryz.func173, Tryz.ntmps173
      go_wp2_with fail
      refine (FR.out _).mono ?_
      rintro e v ⟨rfl, b1⟩
      go_wp2_with fail
      refine (A1.out _).mono ?_
      rintro e v2 ⟨rfl, rfl⟩
      go_wp2_with fail
      refine (A2.out _).mono ?_
      rintro e v3 ⟨rfl, rfl⟩
      go_wp2_with fail
      refine (C2.out _).mono ?_
      rintro e v4 ⟨rfl, rfl⟩
      go_wp2
      go_ret
      exact ⟨rfl, b1⟩
    | false =>
      rw [if_neg Bool.false_ne_true]
      go_enter Tryz.func173, Tryz.ntmps173
      go_wp2_with fail
      refine (FR.out _).mono ?_
      rintro e v ⟨rfl, b1⟩
      go_wp2_with fail
      refine (A1.out _).mono ?_
      rintro e v2 ⟨rfl, rfl⟩
      go_wp2_with fail
      refine (A2.out _).mono ?_
      rintro e v3 ⟨rfl, rfl⟩
      go_wp2_with fail
      refine (A3.out _).mono ?_
      rintro e v4 ⟨rfl, rfl⟩
      go_wp2_with fail
      refine (C3.out _).mono ?_
      rintro e v5 ⟨rfl, rfl⟩
      go_wp2
      go_ret
      exact ⟨rfl, b1⟩
theorem rratio_at (k n : Int) (w : World) (hk : -1000 <= k /\ k <= 1000) (hn : -1000 <= n /\ n <= 1000) :
    Calls Tryz.prog 158 #[.int .i64 k, .int .i64 n] w fun e w' => ∃ r m, e = .returned (.float .f64 r) /\ w' = w.drewN m /\ Hid (IsC r (dvB (fB k) (fB n))) := by
  have F1 : Hid (∀ w, Calls Tryz.prog 109 #[.int .i64 k] w fun e w' => e = .returned (.float .f64 (fB k)) /\ w' = w) := fun w => Ref2.refFromInt_at k _ w (by omega) (by omega) rfl
  have F2 : Hid (∀ w, Calls Tryz.prog 109 #[.int .i64 n] w fun e w' => e = .returned (.float .f64 (fB n)) /\ w' = w) := fun w => Ref2.refFromInt_at n _ w (by omega) (by omega) rfl
  obtain ⟨r, m, hr, hc⟩ := div_any (P := Tryz.prog) w (fB k) (fB n)
  have HC := hid hc
  generalize dvB (fB k) (fB n) = d at *
  generalize fB k = x at *
  generalize fB n = y at *
  clear hc hk hn
  go_enter Tryz.func158, Tryz.ntmps158
  go_wp2_with fail
  refine (F1.out _).mono ?_
  rintro e v2 ⟨rfl, rfl⟩
  go_wp2_with fail
  refine (F2.out _).mono ?_
  rintro e v3 ⟨rfl, rfl⟩
  go_wp2
  go_ret
  exact ⟨r, m, rfl, rfl, HC⟩
end Go.Proofs.YtdigecacmibkpaaGreatDoor

namespace Go.Proofs.YtdigecacmibkpaaGreatDoor
open Go.RowKit Tf Cu
attribute [local go_sem] run_bits run_from raw_feq raw_fne raw_flt raw_fgt run_neg run_store_float
theorem rpoint8_at (n f p q : Nat) (k h : Int) (w : World) (n1 : 1 <= n) (n2 : n <= 32) (hf : f < 6) (hp : IsC p (qo n k)) (hq : IsC q (qo n h)) :
    Calls Tryz.prog 157 #[.int .i64 f, .float .f64 p, .float .f64 q] w fun e w' => e = .returned (.agg #[.float .f64 (px n (fp n f k h)), .float .f64 (py n (fp n f k h)), .float .f64 (pz n (fp n f k h))]) /\ Below w.heap.size w w' := by
  obtain ⟨c1, c2, c3⟩ := oc_fp n1 n2 hf hp hq
  obtain ⟨d1, d2, d3⟩ := cmp_oc hf p q
  have K1 := hid (fun u => rcomp8_at f 1 p q u hf (by omega) hp.1 hq.1)
  have K2 := hid (fun u => rcomp8_at f 2 p q u hf (by omega) hp.1 hq.1)
  have K3 := hid (fun u => rcomp8_at f 3 p q u hf (by omega) hp.1 hq.1)
  rw [d1, c1] at K1
  rw [d2, c2] at K2
  rw [d3, c3] at K3
  have UN := hid (fun w => runit_at _ _ _ w (qo_lt n (fp n f k h).1) (qo_lt n (fp n f k h).2.1) (qo_lt n (fp n f k h).2.2))
  have hux : unB (lnB (qo n (fp n f k h).1) (qo n (fp n f k h).2.1) (qo n (fp n f k h).2.2)) (qo n (fp n f k h).1) = px n (fp n f k h) := rfl
  have huy : unB (lnB (qo n (fp n f k h).1) (qo n (fp n f k h).2.1) (qo n (fp n f k h).2.2)) (qo n (fp n f k h).2.1) = py n (fp n f k h) := rfl
  have huz : unB (lnB (qo n (fp n f k h).1) (qo n (fp n f k h).2.1) (qo n (fp n f k h).2.2)) (qo n (fp n f k h).2.2) = pz n (fp n f k h) := rfl
  rw [hux, huy, huz] at UN
  clear hux huy huz c1 c2 c3 d1 d2 d3 hp hq n1 n2 hf
  generalize px n (fp n f k h) = a at *
  generalize py n (fp n f k h) = b at *
  generalize pz n (fp n f k h) = c at *
  generalize qo n (fp n f k h).1 = x at *
  generalize qo n (fp n f k h).2.1 = y at *
  generalize qo n (fp n f k h).2.2 = z at *
  have A0 := hid (bl1 w (.cells #[.float .f64 0, .float .f64 0, .float .f64 0] 157))
  have R0 := hid (heap_alloc_new w (.cells #[.float .f64 0, .float .f64 0, .float .f64 0] 157))
  go_enter Tryz.func157, Tryz.ntmps157
  go_wp2_with fail
  refine (K1.out _).mono ?_
  rintro e v1 ⟨rfl, b1⟩
  go_wp2_with fail
  refine (K2.out _).mono ?_
  rintro e v2 ⟨rfl, b2⟩
  go_wp2_with fail
  refine (K3.out _).mono ?_
  rintro e v3 ⟨rfl, b3⟩
  go_wp2_with fail
  refine (UN.out _).mono ?_
  rintro e v4 ⟨rfl, b4⟩
  have A4 : Hid (Ab w v4) := Ab.call (Ab.call (Ab.call (Ab.call A0.out b1) b2) b3) b4
  have r0 : v4.heap[w.heap.size]? = some (.cells #[.float .f64 0, .float .f64 0, .float .f64 0] 157) := Ab.heap b4 (Ab.heap b3 (Ab.heap b2 (Ab.heap b1 R0.out)))
  obtain ⟨⟨o0, o1, o2⟩, o3, o4, o5⟩ := rowfacts r0
  have R4 := hid r0
  clear r0 b1 b2 b3 b4 A0 R0
  go_wp2
  refine bodyPost_ret ?_ rfl ⟨rfl, ?_⟩
  · exact results_cell_row Tryz.results157 _ _ w.heap.size _ _ (0, 0) _ rfl (row3 R4.out) Tryz.underlying157 rfl (by kernel_rfl)
  · exact ((Ab.setk A4.out (by omega) _).setk (by omega) _).setk (by omega) _
theorem rcorner_ok (n f i j : Nat) (w : World) (hn : 1 <= n /\ n <= 32) (hf : f < 6) (hi : i <= n) (hj : j <= n) :
    Calls Tryz.prog 136 #[.int .i64 n, .int .i64 f, .int .i64 i, .int .i64 j] w fun e w' => e = .returned (.tuple #[.agg #[.float .f64 (px n (cr n f i j)), .float .f64 (py n (cr n f i j)), .float .f64 (pz n (cr n f i j))], .bool true]) /\ Below w.heap.size w w' := by
  have PA : Hid (∀ (k : Int) u, -1000 <= k /\ k <= 1000 -> Calls Tryz.prog 158 #[.int .i64 k, .int .i64 n] u fun e w' => ∃ r m, e = .returned (.float .f64 r) /\ w' = u.drewN m /\ Hid (IsC r (qo n k))) := fun k u hk => rratio_at k n u hk (by omega)
  have PO : Hid (∀ p q u, Hid (IsC p (qo n (2 * i - n))) -> Hid (IsC q (qo n (2 * j - n))) -> Calls Tryz.prog 157 #[.int .i64 f, .float .f64 p, .float .f64 q] u fun e w' => e = .returned (.agg #[.float .f64 (px n (cr n f i j)), .float .f64 (py n (cr n f i j)), .float .f64 (pz n (cr n f i j))]) /\ Below u.heap.size u w') := fun p q u hp hq => rpoint8_at n f p q _ _ u hn.1 hn.2 hf hp hq
  generalize px n (cr n f i j) = a at *
  generalize py n (cr n f i j) = b at *
  generalize pz n (cr n f i j) = c at *
  have A0 := hid (bl1 w (.cells #[.float .f64 0, .float .f64 0, .float .f64 0] 157))
  have R0 := hid (heap_alloc_new w (.cells #[.float .f64 0, .float .f64 0, .float .f64 0] 157))
  have hi2 : (i : Int) <= 32 := by omega
  have hj2 : (j : Int) <= 32 := by omega
  have hn2 : (n : Int) <= 32 := by omega
  have hn1 : 1 <= (n : Int) := by omega
  have hf2 : (f : Int) <= 5 := by omega
  have hi3 : (i : Int) <= n := by omega
  have hj3 : (j : Int) <= n := by omega
  clear hn hf hi hj
  go_enter Tryz.func136, Tryz.ntmps136
  go_wp2_with fail
  refine (PA.out _ _ (by omega)).mono ?_
  rintro e w1 ⟨p, m1, rfl, rfl, hp⟩
  go_wp2_with fail
  refine (PA.out _ _ (by omega)).mono ?_
  rintro e w1 ⟨q, m2, rfl, rfl, hq⟩
  go_wp2_with fail
  refine (PO.out _ _ _ hp hq).mono ?_
  rintro e w3 ⟨rfl, b3⟩
  have A3 : Hid (Ab w w3) := Ab.call (Ab.drewN A0.out _) b3
  have r0 : w3.heap[w.heap.size]? = some (.cells #[.float .f64 0, .float .f64 0, .float .f64 0] 157) := Ab.heap b3 R0.out
  obtain ⟨⟨o0, o1, o2⟩, o3, o4, o5⟩ := rowfacts r0
  have R3 := hid r0
  clear r0 b3 A0 R0
  go_wp2
  refine bodyPost_ret ?_ rfl ⟨rfl, ?_⟩
  · exact res_two Tryz.results136 _ _ w.heap.size _ _ (0, 0) _ _ rfl rfl (row3 R3.out) Tryz.underlying157 rfl (by kernel_rfl)
  · exact ((Ab.setk A3.out (by omega) _).setk (by omega) _).setk (by omega) _
theorem rplace_okN (n c : Nat) (hn : 1 <= n /\ n <= 32) (hc : c < 6 * n * n) (w : World) :
    Calls Tryz.prog 131 #[.int .i64 n, .int .i64 c] w fun e w' => e = .returned (.tuple #[.int .i64 (cf n c), .int .i64 (ci n c), .int .i64 (cj n c), .bool true]) /\ ∃ k, w' = w.drewN k := by
  have h := rplace_at n c w
  have hin : inR c (clN n) = true := by rw [inR_iff, clN_nat hn]; omega
  rw [hin, show pF n c = (cf n c : Nat) by simp [pF, hin, cf], show pI n c = (ci n c : Nat) by simp [pI, hin, ci], show pJ n c = (cj n c : Nat) by simp [pJ, hin, cj]] at h
  exact h
end Go.Proofs.YtdigecacmibkpaaGreatDoor

namespace Go.Proofs.YtdigecacmibkpaaGreatDoor
open Go.RowKit Tf Cu
attribute [local go_sem] run_bits run_from raw_feq raw_fne raw_flt raw_fgt run_neg run_store_float
theorem rarea_walk (n c f i j : Nat) (a0 b0 d0 a1 b1 d1 a2 b2 d2 a3 b3 d3 : Nat) (w : World) (hi : (i : Int) <= 32) (hj : (j : Int) <= 32) (ha0 : Hid (a0 < 18446744073709551616)) (hb0 : Hid (b0 < 18446744073709551616)) (hd0 : Hid (d0 < 18446744073709551616)) (ha1 : Hid (a1 < 18446744073709551616)) (hb1 : Hid (b1 < 18446744073709551616)) (hd1 : Hid (d1 < 18446744073709551616)) (ha2 : Hid (a2 < 18446744073709551616)) (hb2 : Hid (b2 < 18446744073709551616)) (hd2 : Hid (d2 < 18446744073709551616)) (ha3 : Hid (a3 < 18446744073709551616)) (hb3 : Hid (b3 < 18446744073709551616)) (hd3 : Hid (d3 < 18446744073709551616))
    (PL : Hid (∀ u, Calls Tryz.prog 131 #[.int .i64 n, .int .i64 c] u fun e w' => e = .returned (.tuple #[.int .i64 f, .int .i64 i, .int .i64 j, .bool true]) /\ ∃ k, w' = u.drewN k))
    (K0 : Hid (∀ u, Calls Tryz.prog 136 #[.int .i64 n, .int .i64 f, .int .i64 (i : Nat), .int .i64 (j : Nat)] u fun e w' => e = .returned (.tuple #[.agg #[.float .f64 a0, .float .f64 b0, .float .f64 d0], .bool true]) /\ Below u.heap.size u w'))
    (K1 : Hid (∀ u, Calls Tryz.prog 136 #[.int .i64 n, .int .i64 f, .int .i64 ((i : Nat) + 1), .int .i64 (j : Nat)] u fun e w' => e = .returned (.tuple #[.agg #[.float .f64 a1, .float .f64 b1, .float .f64 d1], .bool true]) /\ Below u.heap.size u w'))
    (K2 : Hid (∀ u, Calls Tryz.prog 136 #[.int .i64 n, .int .i64 f, .int .i64 ((i : Nat) + 1), .int .i64 ((j : Nat) + 1)] u fun e w' => e = .returned (.tuple #[.agg #[.float .f64 a2, .float .f64 b2, .float .f64 d2], .bool true]) /\ Below u.heap.size u w'))
    (K3 : Hid (∀ u, Calls Tryz.prog 136 #[.int .i64 n, .int .i64 f, .int .i64 (i : Nat), .int .i64 ((j : Nat) + 1)] u fun e w' => e = .returned (.tuple #[.agg #[.float .f64 a3, .float .f64 b3, .float .f64 d3], .bool true]) /\ Below u.heap.size u w')) :
    Calls Tryz.prog 110 #[.int .i64 n, .int .i64 c] w fun e w' => e = .returned (.int .i64 (arI (cl (sbB a2 a0) (sbB b2 b0) (sbB d2 d0) (sbB a3 a1) (sbB b3 b1) (sbB d3 d1)))) /\ Below w.heap.size w w' := by
  have MI := hid (fun x y z u v t w (hx : Hid (x < 18446744073709551616)) (hy : Hid (y < 18446744073709551616)) (hz : Hid (z < 18446744073709551616)) (hu : Hid (u < 18446744073709551616)) (hv : Hid (v < 18446744073709551616)) (ht : Hid (t < 18446744073709551616)) => rminus_at x y z u v t w hx hy hz hu hv ht)
  have CR := hid (fun w => rcross_at (sbB a2 a0) (sbB b2 b0) (sbB d2 d0) (sbB a3 a1) (sbB b3 b1) (sbB d3 d1) w (sbB_lt ha2 ha0) (sbB_lt hb2 hb0) (sbB_lt hd2 hd0) (sbB_lt ha3 ha1) (sbB_lt hb3 hb1) (sbB_lt hd3 hd1))
  have LN : Hid (∀ w, Calls Tryz.prog 137 #[.agg #[.float .f64 (sbB (mlB (sbB b2 b0) (sbB d3 d1)) (mlB (sbB d2 d0) (sbB b3 b1))), .float .f64 (sbB (mlB (sbB d2 d0) (sbB a3 a1)) (mlB (sbB a2 a0) (sbB d3 d1))), .float .f64 (sbB (mlB (sbB a2 a0) (sbB b3 b1)) (mlB (sbB b2 b0) (sbB a3 a1)))]] w fun e w' => e = .returned (.float .f64 (cl (sbB a2 a0) (sbB b2 b0) (sbB d2 d0) (sbB a3 a1) (sbB b3 b1) (sbB d3 d1))) /\ Below w.heap.size w w') := fun w => rlength_at (sbB (mlB (sbB b2 b0) (sbB d3 d1)) (mlB (sbB d2 d0) (sbB b3 b1))) (sbB (mlB (sbB d2 d0) (sbB a3 a1)) (mlB (sbB a2 a0) (sbB d3 d1))) (sbB (mlB (sbB a2 a0) (sbB b3 b1)) (mlB (sbB b2 b0) (sbB a3 a1))) w (sbB_lt (mlB_lt (sbB_lt hb2 hb0) (sbB_lt hd3 hd1)) (mlB_lt (sbB_lt hd2 hd0) (sbB_lt hb3 hb1))) (sbB_lt (mlB_lt (sbB_lt hd2 hd0) (sbB_lt ha3 ha1)) (mlB_lt (sbB_lt ha2 ha0) (sbB_lt hd3 hd1))) (sbB_lt (mlB_lt (sbB_lt ha2 ha0) (sbB_lt hb3 hb1)) (mlB_lt (sbB_lt hb2 hb0) (sbB_lt ha3 ha1)))
  have lL : cl (sbB a2 a0) (sbB b2 b0) (sbB d2 d0) (sbB a3 a1) (sbB b3 b1) (sbB d3 d1) < 18446744073709551616 := by unfold cl lnB; exact rtB_lt _
  generalize cl (sbB a2 a0) (sbB b2 b0) (sbB d2 d0) (sbB a3 a1) (sbB b3 b1) (sbB d3 d1) = L at *
  generalize sbB (mlB (sbB b2 b0) (sbB d3 d1)) (mlB (sbB d2 d0) (sbB b3 b1)) = c1 at *
  generalize sbB (mlB (sbB d2 d0) (sbB a3 a1)) (mlB (sbB a2 a0) (sbB d3 d1)) = c2 at *
  generalize sbB (mlB (sbB a2 a0) (sbB b3 b1)) (mlB (sbB b2 b0) (sbB a3 a1)) = c3 at *
  have hmx : arI L = max (cI .even (arQ L)) 1 := by unfold arI; with_reducible rfl
  obtain ⟨A, hA⟩ : ∃ A, cI .even (arQ L) = A := ⟨_, rfl⟩
  obtain ⟨ok, hok⟩ : ∃ ok, cOk .even (arQ L) = ok := ⟨_, rfl⟩
  rw [hmx, hA]
  have HA := hid hA
  have HO := hid hok
  clear hmx hA hok
  go_enter Tryz.func110, Tryz.ntmps110
  go_wp2_with fail
  refine Calls.mono (PL.out _) ?_
  rintro e vv ⟨rfl, k1, rfl⟩
  have AW1 : Hid (Ab w (w.drewN k1)) := Ab.drewN (Ab.refl w) _
  go_wp2_with fail
  refine Calls.mono (K0.out _) ?_
  rintro e v2 ⟨rfl, b2⟩
  have AV2 : Hid (Ab w v2) := Ab.call AW1.out b2
  have RA2 : Hid ((v2.alloc (.cells #[.float .f64 a0, .float .f64 b0, .float .f64 d0] 157)).heap[v2.heap.size]? = some (.cells #[.float .f64 a0, .float .f64 b0, .float .f64 d0] 157)) := heap_alloc_new _ _
  have AW2 : Hid (Ab w (v2.alloc (.cells #[.float .f64 a0, .float .f64 b0, .float .f64 d0] 157))) := AV2.out.call (bl1 v2 (.cells #[.float .f64 a0, .float .f64 b0, .float .f64 d0] 157))
  clear b2 AV2 AW1
  go_wp2_with fail
  refine Calls.mono (K1.out _) ?_
  rintro e v3 ⟨rfl, b3⟩
  have AV3 : Hid (Ab w v3) := Ab.call AW2.out b3
  have RA3 : Hid ((v3.alloc (.cells #[.float .f64 a1, .float .f64 b1, .float .f64 d1] 157)).heap[v2.heap.size]? = some (.cells #[.float .f64 a0, .float .f64 b0, .float .f64 d0] 157)) := Ab.heap (bl1 v3 (.cells #[.float .f64 a1, .float .f64 b1, .float .f64 d1] 157)) (Ab.heap b3 RA2.out)
  have RB3 : Hid ((v3.alloc (.cells #[.float .f64 a1, .float .f64 b1, .float .f64 d1] 157)).heap[v3.heap.size]? = some (.cells #[.float .f64 a1, .float .f64 b1, .float .f64 d1] 157)) := heap_alloc_new _ _
  have AW3 : Hid (Ab w (v3.alloc (.cells #[.float .f64 a1, .float .f64 b1, .float .f64 d1] 157))) := AV3.out.call (bl1 v3 (.cells #[.float .f64 a1, .float .f64 b1, .float .f64 d1] 157))
  clear b3 AV3 RA2 AW2
  go_wp2_with fail
  refine Calls.mono (K2.out _) ?_
  rintro e v4 ⟨rfl, b4⟩
  have AV4 : Hid (Ab w v4) := Ab.call AW3.out b4
  have RA4 : Hid ((v4.alloc (.cells #[.float .f64 a2, .float .f64 b2, .float .f64 d2] 157)).heap[v2.heap.size]? = some (.cells #[.float .f64 a0, .float .f64 b0, .float .f64 d0] 157)) := Ab.heap (bl1 v4 (.cells #[.float .f64 a2, .float .f64 b2, .float .f64 d2] 157)) (Ab.heap b4 RA3.out)
  have RB4 : Hid ((v4.alloc (.cells #[.float .f64 a2, .float .f64 b2, .float .f64 d2] 157)).heap[v3.heap.size]? = some (.cells #[.float .f64 a1, .float .f64 b1, .float .f64 d1] 157)) := Ab.heap (bl1 v4 (.cells #[.float .f64 a2, .float .f64 b2, .float .f64 d2] 157)) (Ab.heap b4 RB3.out)
  have RC4 : Hid ((v4.alloc (.cells #[.float .f64 a2, .float .f64 b2, .float .f64 d2] 157)).heap[v4.heap.size]? = some (.cells #[.float .f64 a2, .float .f64 b2, .float .f64 d2] 157)) := heap_alloc_new _ _
  have AW4 : Hid (Ab w (v4.alloc (.cells #[.float .f64 a2, .float .f64 b2, .float .f64 d2] 157))) := AV4.out.call (bl1 v4 (.cells #[.float .f64 a2, .float .f64 b2, .float .f64 d2] 157))
  clear b4 AV4 RA3 RB3 AW3
  go_wp2_with fail
  refine Calls.mono (K3.out _) ?_
  rintro e v5 ⟨rfl, b5⟩
  have AV5 : Hid (Ab w v5) := Ab.call AW4.out b5
  have RA5 : Hid ((v5.alloc (.cells #[.float .f64 a3, .float .f64 b3, .float .f64 d3] 157)).heap[v2.heap.size]? = some (.cells #[.float .f64 a0, .float .f64 b0, .float .f64 d0] 157)) := Ab.heap (bl1 v5 (.cells #[.float .f64 a3, .float .f64 b3, .float .f64 d3] 157)) (Ab.heap b5 RA4.out)
  have RB5 : Hid ((v5.alloc (.cells #[.float .f64 a3, .float .f64 b3, .float .f64 d3] 157)).heap[v3.heap.size]? = some (.cells #[.float .f64 a1, .float .f64 b1, .float .f64 d1] 157)) := Ab.heap (bl1 v5 (.cells #[.float .f64 a3, .float .f64 b3, .float .f64 d3] 157)) (Ab.heap b5 RB4.out)
  have RC5 : Hid ((v5.alloc (.cells #[.float .f64 a3, .float .f64 b3, .float .f64 d3] 157)).heap[v4.heap.size]? = some (.cells #[.float .f64 a2, .float .f64 b2, .float .f64 d2] 157)) := Ab.heap (bl1 v5 (.cells #[.float .f64 a3, .float .f64 b3, .float .f64 d3] 157)) (Ab.heap b5 RC4.out)
  have RD5 : Hid ((v5.alloc (.cells #[.float .f64 a3, .float .f64 b3, .float .f64 d3] 157)).heap[v5.heap.size]? = some (.cells #[.float .f64 a3, .float .f64 b3, .float .f64 d3] 157)) := heap_alloc_new _ _
  have AW5 : Hid (Ab w (v5.alloc (.cells #[.float .f64 a3, .float .f64 b3, .float .f64 d3] 157))) := AV5.out.call (bl1 v5 (.cells #[.float .f64 a3, .float .f64 b3, .float .f64 d3] 157))
  clear b5 AV5 RA4 RB4 RC4 AW4
  go_upto_region 8 with fail
  generalize hW : World.alloc _ _ = W
  have AW : Hid (Ab w W) := by rw [<- hW]; exact AW5.out
  have GA : Hid (W.heap[v2.heap.size]? = some (.cells #[.float .f64 a0, .float .f64 b0, .float .f64 d0] 157)) := by rw [<- hW]; exact RA5.out
  have GB : Hid (W.heap[v3.heap.size]? = some (.cells #[.float .f64 a1, .float .f64 b1, .float .f64 d1] 157)) := by rw [<- hW]; exact RB5.out
  have GC : Hid (W.heap[v4.heap.size]? = some (.cells #[.float .f64 a2, .float .f64 b2, .float .f64 d2] 157)) := by rw [<- hW]; exact RC5.out
  have GD : Hid (W.heap[v5.heap.size]? = some (.cells #[.float .f64 a3, .float .f64 b3, .float .f64 d3] 157)) := by rw [<- hW]; exact RD5.out
  clear hW AW5 RA5 RB5 RC5 RD5 K0 K1 K2 K3 PL
  obtain ⟨UU, F, hF1, hF2⟩ := cls W
  have HF := hid hF2
  have HF1 := hid hF1
  have xA0 : ∀ vv, (F vv).cell? ⟨v2.heap.size, 0, none⟩ = some (.float .f64 a0) := fun vv => cell_of_row _ _ 0 _ _ _ ((hF1 vv).heap GA.out)
  have xA1 : ∀ vv, (F vv).cell? ⟨v2.heap.size, 1, none⟩ = some (.float .f64 b0) := fun vv => cell_of_row _ _ 1 _ _ _ ((hF1 vv).heap GA.out)
  have xA2 : ∀ vv, (F vv).cell? ⟨v2.heap.size, 2, none⟩ = some (.float .f64 d0) := fun vv => cell_of_row _ _ 2 _ _ _ ((hF1 vv).heap GA.out)
  have xB0 : ∀ vv, (F vv).cell? ⟨v3.heap.size, 0, none⟩ = some (.float .f64 a1) := fun vv => cell_of_row _ _ 0 _ _ _ ((hF1 vv).heap GB.out)
  have xB1 : ∀ vv, (F vv).cell? ⟨v3.heap.size, 1, none⟩ = some (.float .f64 b1) := fun vv => cell_of_row _ _ 1 _ _ _ ((hF1 vv).heap GB.out)
  have xB2 : ∀ vv, (F vv).cell? ⟨v3.heap.size, 2, none⟩ = some (.float .f64 d1) := fun vv => cell_of_row _ _ 2 _ _ _ ((hF1 vv).heap GB.out)
  have xC0 : ∀ vv, (F vv).cell? ⟨v4.heap.size, 0, none⟩ = some (.float .f64 a2) := fun vv => cell_of_row _ _ 0 _ _ _ ((hF1 vv).heap GC.out)
  have xC1 : ∀ vv, (F vv).cell? ⟨v4.heap.size, 1, none⟩ = some (.float .f64 b2) := fun vv => cell_of_row _ _ 1 _ _ _ ((hF1 vv).heap GC.out)
  have xC2 : ∀ vv, (F vv).cell? ⟨v4.heap.size, 2, none⟩ = some (.float .f64 d2) := fun vv => cell_of_row _ _ 2 _ _ _ ((hF1 vv).heap GC.out)
  have xD0 : ∀ vv, (F vv).cell? ⟨v5.heap.size, 0, none⟩ = some (.float .f64 a3) := fun vv => cell_of_row _ _ 0 _ _ _ ((hF1 vv).heap GD.out)
  have xD1 : ∀ vv, (F vv).cell? ⟨v5.heap.size, 1, none⟩ = some (.float .f64 b3) := fun vv => cell_of_row _ _ 1 _ _ _ ((hF1 vv).heap GD.out)
  have xD2 : ∀ vv, (F vv).cell? ⟨v5.heap.size, 2, none⟩ = some (.float .f64 d3) := fun vv => cell_of_row _ _ 2 _ _ _ ((hF1 vv).heap GD.out)
  have D := HF.out _ (Ab.refl W).drew
  clear hF1 hF2
  refine region_cls F (by kernel_rfl) (by kernel_rfl) D ?_
  repeat (go_big_quiet_step (first
    | (with_reducible rfl)
    | (go_at_call 139; exact calls_cls HF HF1 (MI.out _ _ _ _ _ _ _ (by assumption) (by assumption) (by assumption) (by assumption) (by assumption) (by assumption)))
    | (go_at_call 138; exact calls_cls HF HF1 (CR.out _))
    | (go_at_call 137; exact calls_cls HF HF1 (LN.out _))))
  refine wpQuiet_nil ?_
  intro wz hwz
  obtain ⟨vv, hv⟩ := hwz
  have bz : Below W.heap.size W wz := by rw [hv]; exact HF1.out vv
  clear hv vv
  clear HF HF1 D xA0 xA1 xA2 xB0 xB1 xB2 xC0 xC1 xC2 xD0 xD1 xD2
  clear F UU
  have AZ : Hid (Ab w wz) := AW.out.call bz
  clear bz AW GA GB GC GD
  obtain ⟨r1, n1, k1, q1⟩ := mul_any (P := Tryz.prog) wz L _ 4602678819172646912 _ (IsQ.self lL) (IsQ.self (by decide))
  obtain ⟨r2, n2, k2, q2⟩ := mul_any (P := Tryz.prog) (wz.drewN n1) r1 _ 4742290407621132288 _ q1 (IsQ.self (by decide))
  have RO : Hid (∀ u, Calls Tryz.prog 140 #[.float .f64 r2] u fun e w' => e = .returned (.tuple #[.int .i64 A, .bool ok]) /\ w' = u) := fun u =>
    Ref2.refRound_at r2 A ok u q2.1 (by rw [(cI_q r2).1, q2.2]; exact HA.out) (by rw [(cI_q r2).2, q2.2]; exact HO.out)
  rw [World.drewN_drewN] at k2
  clear q1 q2 HA HO
  go_wp2_with fail
  refine (RO.out _).mono ?_
  rintro e w5 ⟨rfl, rfl⟩
  go_wp2
  all_goals go_ret
  all_goals exact ⟨congrArg (fun z => Ending.returned (.int .i64 z)) (by omega), Ab.drewN AZ.out _⟩
theorem rarea_ok (n c : Nat) (w : World) (hn : 1 <= n /\ n <= 32) (hc : c < 6 * n * n) :
    Calls Tryz.prog 110 #[.int .i64 n, .int .i64 c] w fun e w' => e = .returned (.int .i64 (arI (ArC n c))) /\ Below w.heap.size w w' := by
  obtain ⟨h1, h2, h3, -⟩ := dec_lt hn.1 hc
  have h := rarea_walk n c (cf n c) (ci n c) (cj n c) _ _ _ _ _ _ _ _ _ _ _ _ w (by omega) (by omega) (px_lt n _) (py_lt n _) (pz_lt n _) (px_lt n _) (py_lt n _) (pz_lt n _) (px_lt n _) (py_lt n _) (pz_lt n _) (px_lt n _) (py_lt n _) (pz_lt n _) (fun u => rplace_okN n c hn hc u)
    (fun u => rcorner_ok n (cf n c) (ci n c) (cj n c) u hn h1 (by omega) (by omega)) (fun u => rcorner_ok n (cf n c) (ci n c + 1) (cj n c) u hn h1 (by omega) (by omega))
    (fun u => rcorner_ok n (cf n c) (ci n c + 1) (cj n c + 1) u hn h1 (by omega) (by omega)) (fun u => rcorner_ok n (cf n c) (ci n c) (cj n c + 1) u hn h1 (by omega) (by omega))
  unfold ArC ar
  exact h
end Go.Proofs.YtdigecacmibkpaaGreatDoor

namespace Go.Proofs.YtdigecacmibkpaaGreatDoor
open Go.RowKit Cu Tf
attribute [local go_sem] run_store_float
def RefOf (n rb : Nat) (w : World) : Prop := ∃ ab eb cap, w.heap[rb]? = some (.cells #[.int .i64 n, .slice (some ⟨eb, 0, none⟩) (12 * n * n) cap, .slice (some ⟨ab, 0, none⟩) (24 * n * n) (24 * n * n)] 121) /\ EG w n eb /\ w.rowIs ab 3 (24 * n * n) (fun t => .int .i64 (eE n t : Nat))
theorem RefOf.to {n rb : Nat} {w w' : World} (h : RefOf n rb w) (a : Ab w w') : RefOf n rb w' := by
  obtain ⟨ab, eb, cap, h1, h2, h3⟩ := h
  exact ⟨ab, eb, cap, a.heap h1, h2.to a, rowIs.ab h3 a⟩
theorem RE.all {B n rb ab : Nat} {es : Value} {w : World} (hn : 1 <= n) (h : RE B n (24 * n * n) (24 * n * n) rb ab es w) : RefOf n rb w := by
  obtain ⟨h1, h2, h3, h4, h5, h6⟩ := h
  have hh := h2
  have hpos : 0 < 12 * n * n := Nat.mul_pos (by omega) (by omega)
  rw [eN_all hn] at hh
  rcases hh.2 with ⟨rfl, h0⟩ | ⟨g, cap, cur, rfl, hb, hg, k1, k2, k3, k4⟩
  · omega
  · refine ⟨ab, g, cap, h1, ⟨lt_of_block hg, fun t ht hl => ?_⟩, h3.congr (fun t ht => by rw [rA_end hn ht])⟩
    have hc : ∀ j < 4, ∀ u, (edV n t)[j]? = some u -> w.cell? ⟨g, eN n t * 4 + j, none⟩ = some u := by
      intro j hj u hu
      have := hh.cells (g := g) rfl (eN n t * 4 + j) u (by rw [edL_at ht hl hj]; exact hu)
      have ha : (⟨g, 0, none⟩ : Addr).add (eN n t * 4 + j) = ⟨g, eN n t * 4 + j, none⟩ := by unfold Addr.add; split <;> simp_all
      rwa [ha] at this
    exact ⟨hc 0 (by omega) _ rfl, hc 1 (by omega) _ rfl, hc 2 (by omega) _ rfl, hc 3 (by omega) _ rfl⟩
theorem rSide_at {n rb : Nat} {w : World} (g : RefOf n rb w) : Calls Tryz.prog 111 #[.pointer (some ⟨rb, 0, none⟩)] w fun e w' => e = .returned (.int .i64 n) /\ w' = w := by
  obtain ⟨ab, eb, cap, h1, -⟩ := g
  have c0 := cell_of_row _ _ 0 _ _ _ h1
  clear h1
  go_enter Tryz.func111, Tryz.ntmps111
  go_wp2
  go_ret
  exact ⟨rfl, rfl⟩
end Go.Proofs.YtdigecacmibkpaaGreatDoor

namespace Go.Proofs.YtdigecacmibkpaaGreatDoor
open Go.RowKit Cu Tf
attribute [local go_sem] run_store_float
theorem RefOf.c0 {n rb : Nat} {w : World} (h : RefOf n rb w) : w.cell? ⟨rb, 0, none⟩ = some (.int .i64 n) := by
  obtain ⟨ab, eb, cap, h1, -⟩ := h
  exact cell_of_row _ _ 0 _ _ _ h1
theorem rArea_at {n rb : Nat} {c V : Int} {w : World} (A1 : ∀ u, Calls Tryz.prog 110 #[.int .i64 n, .int .i64 c] u fun e w' => e = .returned (.int .i64 V) /\ Below u.heap.size u w') (g : RefOf n rb w) :
    Calls Tryz.prog 63 #[.pointer (some ⟨rb, 0, none⟩), .int .i64 c] w fun e w' => e = .returned (.int .i64 V) /\ Below w.heap.size w w' := by
  have SI := hid (rSide_at g)
  have AA := hid A1
  clear g A1
  go_enter Tryz.func63, Tryz.ntmps63
  go_wp2_with (first
    | (go_at_call 111; refine SI.out.mono ?_; rintro e w' ⟨rfl, hw⟩; have hw2 := hw.symm; subst hw2)
    | (go_at_call 110; refine (AA.out _).mono ?_; rintro e v1 ⟨rfl, b1⟩))
  go_ret
  exact ⟨rfl, b1⟩
end Go.Proofs.YtdigecacmibkpaaGreatDoor

namespace Go.Proofs.YtdigecacmibkpaaGreatDoor.Sh
theorem div_two {a z : Int} (hz : 0 < z) : z * (a / z) <= a /\ a < z * (a / z) + z := by
  have h1 := Int.mul_ediv_add_emod a z
  have h2 := Int.emod_nonneg a (show z ≠ 0 by omega)
  have h3 := Int.emod_lt_of_pos a hz
  constructor <;> omega
def sumN (f : Nat -> Int) : Nat -> Int
  | 0 => 0
  | n + 1 => sumN f n + f n
theorem sumN_nn {f : Nat -> Int} : ∀ {n : Nat}, (∀ i, i < n -> 0 <= f i) -> 0 <= sumN f n
  | 0, _ => by show (0 : Int) <= 0; omega
  | n + 1, h => by
    show 0 <= sumN f n + f n
    have a := sumN_nn (n := n) (fun i hi => h i (by omega))
    have b := h n (by omega)
    omega
theorem sumN_mono {f : Nat -> Int} {n : Nat} (h : ∀ i, i < n -> 0 <= f i) : ∀ {m : Nat}, m <= n -> sumN f m <= sumN f n := by
  intro m hm
  induction n with
  | zero => obtain rfl : m = 0 := by omega
            omega
  | succ n ih =>
    by_cases e : m = n + 1
    · subst e; omega
    · have a := ih (fun i hi => h i (by omega)) (by omega)
      have b := h n (by omega)
      show sumN f m <= sumN f n + f n
      omega
end Go.Proofs.YtdigecacmibkpaaGreatDoor.Sh

namespace Go.Proofs.YtdigecacmibkpaaGreatDoor
namespace Rv
open Sh
/-! ### the order -/
/-! ### a step of rivers -/
def okV (n : Nat) (f : Nat -> Int) : Prop := (∀ c, c < n -> 0 <= f c) /\ sumN f n <= 4503599627370496
theorem elem_le {f : Nat -> Int} {n c : Nat} (h : ∀ i, i < n -> 0 <= f i) (hc : c < n) : f c <= sumN f n := by
  have a := sumN_mono h (m := c + 1) (by omega)
  have b := sumN_nn (f := f) (n := c) (fun i hi => h i (by omega))
  have e : sumN f (c + 1) = sumN f c + f c := rfl
  omega
theorem okV.b {n : Nat} {f : Nat -> Int} (h : okV n f) {c : Nat} (hc : c < n) : 0 <= f c /\ f c <= 4503599627370496 := ⟨h.1 c hc, by have := elem_le h.1 hc; have := h.2; omega⟩
section
variable {n : Nat} {dn : Nat -> Int} {sh : Int -> Nat -> Bool} {X : (Nat -> Int) × (Nat -> Int)}
end
end Rv
end Go.Proofs.YtdigecacmibkpaaGreatDoor

namespace Go.Proofs.YtdigecacmibkpaaGreatDoor
open Tf Ieee
def Hi (h x : Nat) : Prop := mg x = 0 \/ (238690780250636288 <= mg x /\ mg x <= h)
theorem Hi.md {h x : Nat} (k : Hi h x) (hh : h + 4503599627370496 < 9218868437227405312) : Md x := by
  rcases k with k | k
  · exact .inl k
  · exact .inr ⟨by omega, by omega⟩
theorem mv_52 {r : Nat} (h : 238690780250636288 <= r) : ∃ q, mv r = q * 4503599627370496 := by
  unfold mv mag
  have e : (2 : Nat) ^ 52 = 4503599627370496 := by decide
  rw [if_neg (by omega), e]
  obtain ⟨j, hj⟩ : ∃ j, r / 4503599627370496 - 1 = 52 + j := ⟨r / 4503599627370496 - 1 - 52, by omega⟩
  rw [hj, Nat.pow_add, e]
  exact ⟨(4503599627370496 + r % 4503599627370496) * 2 ^ j, by rw [<- Nat.mul_assoc, Nat.mul_right_comm]⟩
theorem Hi.sv {h x : Nat} (k : Hi h x) : ∃ q : Int, sv x = q * 4503599627370496 := by
  unfold Tf.sv
  rcases k with k | k
  · rw [k, mv_zero]; exact ⟨0, by cases ng x <;> rfl⟩
  · obtain ⟨q, hq⟩ := mv_52 k.1
    rw [hq]
    cases ng x
    · exact ⟨q, by simp⟩
    · exact ⟨-q, by simp; omega⟩
def Ps (h x : Nat) : Prop := Hi h x /\ x < 9223372036854775808
theorem Ps.lt {h x : Nat} (k : Ps h x) : x < 18446744073709551616 := by have := k.2; omega
theorem Ps.ng {h x : Nat} (k : Ps h x) : Tf.ng x = false := ng_of_lt k.2
theorem Ps.mg {h x : Nat} (k : Ps h x) : Tf.mg x = x := mg_of_lt k.2
def In1 (x : Nat) : Prop := mg x = 0 \/ (3110860544497550640 <= mg x /\ mg x <= 6103021453049119613)
theorem In1.hi {x : Nat} (k : In1 x) : Hi 6103021453049119613 x := by
  rcases k with k | k
  · exact .inl k
  · exact .inr ⟨by omega, k.2⟩
theorem In1.md {x : Nat} (k : In1 x) : Md x := k.hi.md (by omega)
theorem pr_lo : mv 1599789920352257571 * 2 ^ K <= mv 3110860544497550640 * mv 3110860544497550640 := by decide +kernel
theorem pr_hi : mv 6103021453049119613 * mv 6103021453049119613 <= mv 7613934262404594417 * 2 ^ K := by decide +kernel
theorem pr_lg : 2 ^ (52 + K) <= mv 3110860544497550640 * mv 3110860544497550640 := by decide +kernel
theorem rung_ge' {d r V : Nat} (h : mv r * 2 ^ d <= V) : r <= rung 52 d V := rung_ge (by omega) h
theorem rung_le' {d r V : Nat} (h : V <= mv r * 2 ^ d) : rung 52 d V <= r := rung_le (by omega) h
theorem pr_rung {V : Nat} (h1 : mv 3110860544497550640 * mv 3110860544497550640 <= V) (h2 : V <= mv 6103021453049119613 * mv 6103021453049119613) :
    52 + 1074 <= V.log2 /\ 1599789920352257571 <= rung 52 1074 V /\ rung 52 1074 V <= 7613934262404594417 := by
  have hV : 2 ^ (52 + K) <= V := Nat.le_trans pr_lg h1
  have h0 : V ≠ 0 := by have := Nat.two_pow_pos (52 + K); omega
  refine ⟨?_, ?_, ?_⟩
  · have := (Nat.le_log2 h0).2 hV
    exact this
  · exact rung_ge' (d := K) (Nat.le_trans pr_lo h1)
  · exact rung_le' (d := K) (Nat.le_trans h2 pr_hi)
theorem In1.far {x y : Nat} (kx : In1 x) (ky : In1 y) : Far x y := by
  rcases kx with kx | kx
  · exact .inl (.inl kx)
  · rcases ky with ky | ky
    · exact .inl (.inr ky)
    · obtain ⟨a, b, c⟩ := pr_rung (Nat.mul_le_mul (mv_le.2 kx.1) (mv_le.2 ky.1)) (Nat.mul_le_mul (mv_le.2 kx.2) (mv_le.2 ky.2))
      exact .inr ⟨a, by omega⟩
theorem In1.prod {x y : Nat} (hx : x < 18446744073709551616) (hy : y < 18446744073709551616) (kx : In1 x) (ky : In1 y) : Hi 7613934262404594417 (mlB x y) := by
  rw [mul_w hx hy kx.md.fin ky.md.fin]
  show Hi _ (wd (ng x ^^ ng y) _)
  unfold Hi
  have z : (mg x = 0 \/ mg y = 0) -> mv (mg x) * mv (mg y) = 0 := by
    intro h
    rcases h with h | h
    · rw [h, mv_zero, Nat.zero_mul]
    · rw [h, mv_zero, Nat.mul_zero]
  rcases kx with kx | kx
  · rw [z (.inl kx), rung_none, Nat.zero_min, wd_mg (by omega)]; exact .inl rfl
  · rcases ky with ky | ky
    · rw [z (.inr ky), rung_none, Nat.zero_min, wd_mg (by omega)]; exact .inl rfl
    · obtain ⟨a, b, c⟩ := pr_rung (Nat.mul_le_mul (mv_le.2 kx.1) (mv_le.2 ky.1)) (Nat.mul_le_mul (mv_le.2 kx.2) (mv_le.2 ky.2))
      generalize rung 52 1074 (mv (mg x) * mv (mg y)) = r at *
      rw [Nat.min_eq_left (by omega), wd_mg (by omega)]
      exact .inr ⟨by omega, c⟩
theorem In1.sq {x : Nat} (hx : x < 18446744073709551616) (k : In1 x) : Ps 7613934262404594417 (sqB x) := by
  refine ⟨k.prod hx hx k, ?_⟩
  unfold sqB
  rw [mul_w hx hx k.md.fin k.md.fin, Bool.xor_self]
  simp only [Bool.false_eq_true, if_false]
  exact Nat.lt_of_le_of_lt (Nat.min_le_right _ _) (by decide)
end Go.Proofs.YtdigecacmibkpaaGreatDoor

namespace Go.Proofs.YtdigecacmibkpaaGreatDoor
open Tf Ieee
theorem ml_word {a b : Nat} (ha : a < 9218868437227405312) (hb : b < 9218868437227405312) : mlB a b = min (rung 52 1074 (mv a * mv b)) 9218868437227405312 := by
  have ma : mg a = a := mg_of_lt (by omega)
  have mb : mg b = b := mg_of_lt (by omega)
  rw [mul_w (by omega) (by omega) (by omega) (by omega), ng_of_lt (by omega), ng_of_lt (by omega), ma, mb]
  simp only [Bool.xor_self, Bool.false_eq_true, if_false]
end Go.Proofs.YtdigecacmibkpaaGreatDoor

namespace Go.Proofs.YtdigecacmibkpaaGreatDoor
open Tf Ieee
def fw (n : Int) : Nat := rn false (n * one)
theorem R_one : R one = 4607182418800017408 := (R_mv 4607182418800017408 (by decide)).1
theorem mv_2_63 : mv 4890909195324358656 = 9223372036854775808 * one := by
  have h := mv_from_one 63 4890909195324358656 (by decide)
  have e : (2 : Nat) ^ 63 = 9223372036854775808 := by decide
  rw [e] at h
  exact h
theorem R_max : R (9223372036854775808 * one) = 4890909195324358656 := by
  have h := (R_mv 4890909195324358656 (by decide)).1
  rw [mv_2_63, Int.natCast_mul] at h
  exact h
theorem rn_nn {v : Int} (h : 0 <= v) : rn false v = (R v).toNat := by
  unfold rn R
  generalize min (rung 52 0 v.natAbs) 9218868437227405312 = m
  by_cases z : v = 0
  · rw [if_pos z, if_neg (by decide), if_neg (by omega), Int.toNat_natCast]
  · rw [if_neg z, decide_eq_false (by omega), if_neg (by decide), if_neg (by omega), Int.toNat_natCast]
theorem fw_R {n : Int} (h : 0 <= n) : fw n = (R (n * one)).toNat := rn_nn (Int.mul_nonneg h (Int.le_of_lt onep))
theorem fw_in {n : Int} (h1 : 1 <= n) (h2 : n <= 9223372036854775807) : 4607182418800017408 <= fw n /\ fw n <= 4890909195324358656 := by
  have a := R_mono (Int.mul_le_mul_of_nonneg_right h1 (Int.le_of_lt onep))
  have b := R_mono (Int.mul_le_mul_of_nonneg_right (show n <= 9223372036854775808 by omega) (Int.le_of_lt onep))
  rw [Int.one_mul, R_one] at a
  rw [R_max] at b
  rw [fw_R (by omega)]
  omega
end Go.Proofs.YtdigecacmibkpaaGreatDoor

namespace Go.Proofs.YtdigecacmibkpaaGreatDoor
open Tf
namespace Ss
def btw (x lo hi : Nat) : Bool := (fgt x lo || feq x lo) && (flt x hi || feq x hi) && decide (x ≠ 9223372036854775808)
def fp (p : Nat -> Bool) (n : Nat) : Int := match (List.range n).find? p with
  | some i => (i : Int)
  | none => -1
theorem fp_hit {p : Nat -> Bool} {n k : Nat} (h : ∀ i, i < k -> p i = false) (hk : p k = true) (hn : k < n) : fp p n = (k : Nat) := by
  have e : (List.range n).find? p = some k := by
    rw [List.find?_range_eq_some]
    exact ⟨hk, List.mem_range.2 hn, fun j hj => by rw [h j hj]; rfl⟩
  unfold fp
  rw [e]
theorem fp_none {p : Nat -> Bool} {n : Nat} (h : ∀ i, i < n -> p i = false) : fp p n = -1 := by
  have e : (List.range n).find? p = none := by
    rw [List.find?_eq_none]
    intro x hx
    rw [h x (List.mem_range.1 hx)]
    decide
  unfold fp
  rw [e]
theorem fp_cases (p : Nat -> Bool) (n : Nat) : (fp p n = -1 /\ ∀ i, i < n -> p i = false) \/ ∃ k, k < n /\ fp p n = (k : Nat) /\ p k = true /\ ∀ i, i < k -> p i = false := by
  cases e : (List.range n).find? p with
  | none =>
    refine .inl ⟨by unfold fp; rw [e], fun i hi => ?_⟩
    have := List.find?_eq_none.1 e i (List.mem_range.2 hi)
    cases q : p i with
    | false => rfl
    | true => exact absurd q this
  | some k =>
    obtain ⟨h1, h2, h3⟩ := List.find?_range_eq_some.1 e
    refine .inr ⟨k, List.mem_range.1 h2, by unfold fp; rw [e], h1, fun i hi => ?_⟩
    have := h3 i hi
    cases q : p i with
    | false => rfl
    | true => rw [q] at this; cases this
theorem fp_neg {p : Nat -> Bool} {n : Nat} (h : fp p n < 0) : ∀ i, i < n -> p i = false := by
  rcases fp_cases p n with ⟨_, q⟩ | ⟨k, _, e, _⟩
  · exact q
  · omega
theorem fp_ge (p : Nat -> Bool) (n : Nat) : -1 <= fp p n /\ fp p n < n := by
  rcases fp_cases p n with ⟨e, _⟩ | ⟨k, hk, e, _⟩ <;> omega
def bB (B : Nat -> Nat) (i : Nat) : Bool := !btw (B i) 13920626448202203136 4697254411347427328
def bS (S : Nat -> Nat) (i : Nat) : Bool := !btw (S i) 13875590451928498176 4652218415073722368
def bQ (W : Nat -> Int) (th : Int) (i : Nat) : Bool := decide (W i < 0) || decide (4503599627370496 - (th + Sh.sumN W i) < W i)
def chN (N : Nat) (lb lw lt ls : Nat) (B : Nat -> Nat) (W T : Nat -> Int) (S : Nat -> Nat) (sky st : Int) : Int × Int :=
  if lb ≠ N then (0, 12) else if lw ≠ N then (1, 12) else if lt ≠ N then (2, 12) else if ls ≠ 2 * N then (3, 12)
  else if 0 <= fp (bB B) N then (fp (bB B) N, 13)
  else if sky < 0 \/ 4503599627370496 < sky then (0, 17)
  else if 0 <= fp (bQ W sky) N then (fp (bQ W sky) N, 14)
  else if 0 <= fp (bQ T 0) N then (fp (bQ T 0) N, 15)
  else if 0 <= fp (bS S) (2 * N) then (fp (bS S) (2 * N), 16)
  else if st < 0 \/ 4611686018427387904 < st then (0, 1) else (0, 0)
def chk (side : Int) (lb lw lt ls : Nat) (B : Nat -> Nat) (W T : Nat -> Int) (S : Nat -> Nat) (sky st : Int) : Int × Int :=
  if 1 <= side /\ side <= 32 then chN (6 * side.toNat * side.toNat) lb lw lt ls B W T S sky st else (0, 10)
def okN (N : Nat) (B : Nat -> Nat) (W T : Nat -> Int) (S : Nat -> Nat) (sky st : Int) : Prop :=
  (∀ i, i < N -> bB B i = false) /\ (0 <= sky /\ sky <= 4503599627370496) /\ ((∀ i, i < N -> 0 <= W i) /\ sky + Sh.sumN W N <= 4503599627370496) /\ Rv.okV N T /\ (∀ i, i < 2 * N -> bS S i = false) /\ 0 <= st /\ st <= 4611686018427387904
theorem bQ_none {W : Nat -> Int} {th : Int} {n : Nat} (ht : th <= 4503599627370496) : (∀ i, i < n -> bQ W th i = false) ↔ (∀ i, i < n -> 0 <= W i) /\ th + Sh.sumN W n <= 4503599627370496 := by
  constructor
  · intro h
    have f : ∀ i, i < n -> 0 <= W i /\ th + Sh.sumN W i + W i <= 4503599627370496 := fun i hi => by
      have := h i hi
      unfold bQ at this
      rw [Bool.or_eq_false_iff, decide_eq_false_iff_not, decide_eq_false_iff_not] at this
      omega
    refine ⟨fun i hi => (f i hi).1, ?_⟩
    cases n with
    | zero => show th + 0 <= _; omega
    | succ m =>
      have := (f m (by omega)).2
      show th + (Sh.sumN W m + W m) <= _
      omega
  · rintro ⟨h1, h2⟩ i hi
    have m := Sh.sumN_mono h1 (m := i + 1) (by omega)
    have e : Sh.sumN W (i + 1) = Sh.sumN W i + W i := rfl
    have := h1 i hi
    unfold bQ
    rw [Bool.or_eq_false_iff, decide_eq_false_iff_not, decide_eq_false_iff_not]
    omega
theorem chN_ok {N lb lw lt ls : Nat} {B : Nat -> Nat} {W T : Nat -> Int} {S : Nat -> Nat} {sky st : Int} :
    (chN N lb lw lt ls B W T S sky st).2 = 0 ↔ (lb = N /\ lw = N /\ lt = N /\ ls = 2 * N) /\ okN N B W T S sky st := by
  unfold chN
  by_cases h1 : lb = N
  · rw [if_neg (by omega)]
    by_cases h2 : lw = N
    · rw [if_neg (by omega)]
      by_cases h3 : lt = N
      · rw [if_neg (by omega)]
        by_cases h4 : ls = 2 * N
        · rw [if_neg (by omega)]
          by_cases h5 : 0 <= fp (bB B) N
          · rw [if_pos h5]
            refine ⟨fun q => by simp at q, fun q => ?_⟩
            rw [fp_none q.2.1] at h5
            omega
          · rw [if_neg h5]
            have k5 := fp_neg (p := bB B) (n := N) (by omega)
            by_cases h6 : sky < 0 \/ 4503599627370496 < sky
            · rw [if_pos h6]
              refine ⟨fun q => by simp at q, fun q => ?_⟩
              have := q.2.2.1
              omega
            · rw [if_neg h6]
              by_cases h7 : 0 <= fp (bQ W sky) N
              · rw [if_pos h7]
                refine ⟨fun q => by simp at q, fun q => ?_⟩
                rw [fp_none ((bQ_none (by omega)).2 q.2.2.2.1)] at h7
                omega
              · rw [if_neg h7]
                have k7 := (bQ_none (by omega)).1 (fp_neg (p := bQ W sky) (n := N) (by omega))
                by_cases h8 : 0 <= fp (bQ T 0) N
                · rw [if_pos h8]
                  refine ⟨fun q => by simp at q, fun q => ?_⟩
                  rw [fp_none ((bQ_none (by omega)).2 ⟨q.2.2.2.2.1.1, by have := q.2.2.2.2.1.2; omega⟩)] at h8
                  omega
                · rw [if_neg h8]
                  have k8 := (bQ_none (th := 0) (by omega)).1 (fp_neg (p := bQ T 0) (n := N) (by omega))
                  by_cases h9 : 0 <= fp (bS S) (2 * N)
                  · rw [if_pos h9]
                    refine ⟨fun q => by simp at q, fun q => ?_⟩
                    rw [fp_none q.2.2.2.2.2.1] at h9
                    omega
                  · rw [if_neg h9]
                    have k9 := fp_neg (p := bS S) (n := 2 * N) (by omega)
                    by_cases h10 : st < 0 \/ 4611686018427387904 < st
                    · rw [if_pos h10]
                      refine ⟨fun q => by simp at q, fun q => ?_⟩
                      have := q.2.2.2.2.2.2
                      omega
                    · rw [if_neg h10]
                      exact ⟨fun _ => ⟨⟨h1, h2, h3, h4⟩, k5, ⟨by omega, by omega⟩, k7, ⟨k8.1, by have := k8.2; omega⟩, k9, by omega, by omega⟩, fun _ => rfl⟩
        · rw [if_pos h4]
          exact ⟨fun q => by simp at q, fun q => absurd q.1.2.2.2 h4⟩
      · rw [if_pos h3]
        exact ⟨fun q => by simp at q, fun q => absurd q.1.2.2.1 h3⟩
    · rw [if_pos h2]
      exact ⟨fun q => by simp at q, fun q => absurd q.1.2.1 h2⟩
  · rw [if_pos h1]
    exact ⟨fun q => by simp at q, fun q => absurd q.1.1 h1⟩
theorem chN_zero {N lb lw lt ls : Nat} {B : Nat -> Nat} {W T : Nat -> Int} {S : Nat -> Nat} {sky st : Int} (h : (lb = N /\ lw = N /\ lt = N /\ ls = 2 * N) /\ okN N B W T S sky st) : chN N lb lw lt ls B W T S sky st = (0, 0) := by
  obtain ⟨⟨rfl, rfl, rfl, rfl⟩, o1, o2, o3, o4, o5, o6⟩ := h
  unfold chN
  rw [if_neg (by omega), if_neg (by omega), if_neg (by omega), if_neg (by omega), if_neg (by rw [fp_none o1]; omega), if_neg (by omega), if_neg (by rw [fp_none ((bQ_none (by omega)).2 o3)]; omega), if_neg (by rw [fp_none ((bQ_none (by omega)).2 ⟨o4.1, by have := o4.2; omega⟩)]; omega), if_neg (by rw [fp_none o5]; omega), if_neg (by omega)]
def rB (n : Int) (r : Int × Int × Int × Int) : Bool := decide (0 <= r.1) && decide (r.1 < n) && decide (-4503599627370496 <= r.2.1) && decide (r.2.1 <= 4503599627370496) && decide (0 <= r.2.2.1) && decide (r.2.2.1 <= r.2.2.2)
def plE (sd : Int) (dt gr dr : Nat) (lim : Int) (lr : Nat) (R : Nat -> Int × Int × Int × Int) : Int :=
  if ¬ (1 <= sd /\ sd <= 32) then 10
  else if ¬ (btw dt 0 4652218415073722368 = true /\ feq dt 0 = false /\ btw gr 0 4652218415073722368 = true /\ btw dr 0 4652218415073722368 = true /\ (0 <= lim /\ lim <= 3)) then 11
  else if ¬ (lr <= 1024 /\ ∀ k, k < lr -> rB ((6 * sd.toNat * sd.toNat : Nat) : Int) (R k) = true) then 18 else 0
def eqL {α : Type} [DecidableEq α] (n m : Nat) (f g : Nat -> α) : Bool := decide (n = m /\ ∀ i, i < n -> f i = g i)
end Ss
end Go.Proofs.YtdigecacmibkpaaGreatDoor

namespace Go.Proofs.YtdigecacmibkpaaGreatDoor
open Tf Ieee
def leer (a b : Nat) : Nat := dvB (mlB (mlB 4611686018427387904 a) b) (plB a b)
end Go.Proofs.YtdigecacmibkpaaGreatDoor

namespace Go.Proofs.YtdigecacmibkpaaGreatDoor
open Tf Ieee
theorem canon_nn {r : Nat} (h : r <= 9218868437227405312) : canonB r = r := by
  have mr : mg r = r := mg_of_lt (by omega)
  unfold canonB
  rw [mr, if_neg (by unfold isN; rw [mr]; simp; omega)]
  split <;> omega
theorem ml_nn {x y : Nat} (hx : x <= 9218868437227405312) (hy : y <= 9218868437227405312) (x0 : 0 < x) (y0 : 0 < y) : mlB x y <= 9218868437227405312 := by
  have mx : mg x = x := mg_of_lt (by omega)
  have my : mg y = y := mg_of_lt (by omega)
  have nx : ng x = false := ng_of_lt (by omega)
  have ny : ng y = false := ng_of_lt (by omega)
  have hi : infW (false ^^ false) = 9218868437227405312 := by decide
  by_cases cx : x = 9218868437227405312
  · by_cases cy : y = 9218868437227405312
    · have e := mul_ii x y (by omega) (by omega) (by omega) (by omega)
      rw [mlB_some e, nx, ny, hi]
      exact Nat.le_refl _
    · have e := mul_if x y (by omega) (by omega) (by omega) (by omega)
      rw [if_neg (by omega)] at e
      rw [mlB_some e, nx, ny, hi]
      exact Nat.le_refl _
  · by_cases cy : y = 9218868437227405312
    · have e := mul_fi x y (by omega) (by omega) (by omega) (by omega)
      rw [if_neg (by omega)] at e
      rw [mlB_some e, nx, ny, hi]
      exact Nat.le_refl _
    · rw [ml_word (by omega) (by omega)]
      exact Nat.min_le_right _ _
end Go.Proofs.YtdigecacmibkpaaGreatDoor

namespace Go.Proofs.YtdigecacmibkpaaGreatDoor
open Tf Ieee
theorem R_pos {v : Int} (h : 0 < v) : 1 <= R v := by
  have := R_mono (show (1 : Int) <= v by omega)
  rwa [show R 1 = 1 by decide +kernel] at this
theorem R_top (v : Int) : R v <= 9218868437227405312 := by
  unfold R
  have := Nat.min_le_right (rung 52 0 v.natAbs) 9218868437227405312
  split <;> omega
theorem hi_val {l b : Nat} (hl : l < 18446744073709551616) (hb : b < 18446744073709551616) (nl : isN l = false) (nb : isN b = false) (h : rk b < rk l) :
    sbB l b = if mg l < 9218868437227405312 /\ mg b < 9218868437227405312 then (R (sv l - sv b)).toNat else 9218868437227405312 := by
  have wl := word_eq l hl
  have wb := word_eq b hb
  have hml := isN_false.1 nl
  have hmb := isN_false.1 nb
  unfold sbB
  have hn := negB_lt' hb
  have mn := negB_mg hb
  by_cases c : mg l < 9218868437227405312
  · by_cases d : mg b < 9218868437227405312
    · rw [if_pos ⟨c, d⟩, addB_fin l (negB b) hl hn c (by omega), negB_sv hb, rn_nn]
      · rfl
      · have := (sv_lt_iff b l).2 h
        omega
    · rw [if_neg (by omega), addB_some (add_fi l (negB b) hn c (by omega)), negB_ng hb]
      cases g : ng b
      · exfalso
        have e : rk b = 9218868437227405312 := by unfold rk; rw [g, show mg b = 9218868437227405312 by omega]; rfl
        have := rk_bound l nl
        omega
      · decide
  · rw [if_neg (by omega)]
    have e : mg l = 9218868437227405312 := by omega
    have gl : ng l = false := by
      cases g : ng l
      · rfl
      · exfalso
        have e3 : rk l = -9218868437227405312 := by unfold rk; rw [g, e]; rfl
        have := rk_bound b nb
        omega
    by_cases d : mg b < 9218868437227405312
    · rw [addB_some (add_if l (negB b) hl e (by omega)), gl]; decide
    · have e2 : mg b = 9218868437227405312 := by omega
      have gb : ng b = true := by
        cases g : ng b
        · exfalso
          have e3 : rk b = 9218868437227405312 := by unfold rk; rw [g, e2]; rfl
          have := rk_bound l nl
          omega
        · rfl
      rw [addB_some (r := infW false) (by rw [add_ii l (negB b) hl hn e (by omega), negB_ng hb, gl, gb]; rfl)]
      decide
theorem hi_in {l b : Nat} (hl : l < 18446744073709551616) (hb : b < 18446744073709551616) (nl : isN l = false) (nb : isN b = false) (h : rk b < rk l) : 0 < sbB l b /\ sbB l b <= 9218868437227405312 := by
  rw [hi_val hl hb nl nb h]
  split
  · have := (sv_lt_iff b l).2 h
    have := R_pos (v := sv l - sv b) (by omega)
    have := R_top (sv l - sv b)
    omega
  · omega
theorem clamp_zero : clampB 0 4503599627370496 = 0 := by decide +kernel
theorem clamp_in11 {x : Nat} (h : x <= 9218868437227405312) : 0 <= clampB x 4503599627370496 /\ clampB x 4503599627370496 <= 4503599627370496 := by
  have n : isN x = false := isN_false.2 (by rw [mg_of_lt (by omega)]; exact h)
  refine ⟨?_, ?_⟩
  · have := clampB_mono 0 x 4503599627370496 (by decide) (by omega) (by decide) n (by rw [rk_pos x (by omega), show rk 0 = 0 by decide]; omega)
    rwa [clamp_zero] at this
  · rw [clampB_num x _ (by omega) n, show clampM 4503599627370496 = 4503599627370496 by decide]
    split
    · omega
    · split <;> omega
def fil (b : Nat) (a : Int) (l : Nat) : Int := if fgt l b = true /\ 1 <= a then clampB (mlB (sbB l b) (fw a)) 4503599627370496 else 0
theorem fil_yes {b : Nat} {a : Int} {l : Nat} (h : fgt l b = true) (ha : 1 <= a) : fil b a l = clampB (mlB (sbB l b) (fw a)) 4503599627370496 := by unfold fil; rw [if_pos ⟨h, ha⟩]
theorem fil_no {b : Nat} {a : Int} {l : Nat} (h : fgt l b = false \/ a < 1) : fil b a l = 0 := by
  unfold fil
  rw [if_neg]
  rintro ⟨h1, h2⟩
  rcases h with h | h
  · rw [h] at h1; exact absurd h1 (by decide)
  · omega
theorem fgt_iff {l b : Nat} (hl : l < 18446744073709551616) (hb : b < 18446744073709551616) : fgt l b = true ↔ isN l = false /\ isN b = false /\ rk b < rk l := by
  rw [fgt_rk l b hl hb]
  cases isN l <;> cases isN b <;> simp
theorem fil_prod {b : Nat} {a : Int} {l : Nat} (hl : l < 18446744073709551616) (hb : b < 18446744073709551616) (h : fgt l b = true) (ha : 1 <= a) (a2 : a <= 9223372036854775807) : mlB (sbB l b) (fw a) <= 9218868437227405312 := by
  obtain ⟨nl, nb, k⟩ := (fgt_iff hl hb).1 h
  have i := hi_in hl hb nl nb k
  have f := fw_in ha a2
  exact ml_nn i.2 (by omega) i.1 (by omega)
theorem fil_in {b : Nat} {a : Int} {l : Nat} (hl : l < 18446744073709551616) (hb : b < 18446744073709551616) (a2 : a <= 9223372036854775807) : 0 <= fil b a l /\ fil b a l <= 4503599627370496 := by
  by_cases h : fgt l b = true /\ 1 <= a
  · rw [fil_yes h.1 h.2]
    exact clamp_in11 (fil_prod hl hb h.1 h.2 a2)
  · unfold fil
    rw [if_neg h]
    omega
end Go.Proofs.YtdigecacmibkpaaGreatDoor

namespace Go.Proofs.YtdigecacmibkpaaGreatDoor
open Tf Ieee
def ps (a : Nat) : Bool := decide (0 < a /\ a <= 9218868437227405312)
def ns (a : Nat) : Bool := decide (9223372036854775808 < a /\ a <= 18442240474082181120)
def lr (a b : Nat) : Nat := if leer a b < 9218868437227405312 then leer a b else 0
def op (x : Nat) : Nat := if x = 0 then 0 else x + 9223372036854775808
end Go.Proofs.YtdigecacmibkpaaGreatDoor
