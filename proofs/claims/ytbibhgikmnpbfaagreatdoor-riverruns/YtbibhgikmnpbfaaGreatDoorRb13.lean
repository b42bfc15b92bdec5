/-
  Some of the texts of this proof, one behind the other.
-/
import Derived.WalkKit
import Derived.Test.YtbibhgikmnpbfaaGreatDoorRows
import Derived.ProofKit
import Derived.OpenShut
import Derived.WalkLawsBesides
import Derived.Stop.Joined
import Derived.Carry
import Derived.Lib.SmallJoins
import Derived.Deep.Slices
import Derived.Test.YtbibhgikmnpbfaaGreatDoorRb12
namespace Go.Proofs.YtbibhgikmnpbfaaGreatDoor.Ref2
open Go.RowKit Tf
attribute [local go_sem] run_bits run_from raw_feq raw_fne raw_flt raw_fgt run_neg

theorem small52 (m : Nat) (e : Int) (r : Nat) (w : World) (hm : m ≤ 9223372036854775808) (e0 : -1074 ≤ e) (e1 : e ≤ 900) (hr : min (rung 52 0 (m * 2 ^ (e + 1074).toNat)) 9218868437227405312 = r) :
    Calls Tryz.prog 103 #[.int .u64 (m : Nat), .int .i64 e, .int .i64 52, .int .i64 (-1074), .int .u64 9218868437227405312] w fun e w' => e = .returned (.int .u64 (r : Nat)) ∧ w' = w := by
  refine small_at m 52 9218868437227405312 e (-1074) r w hm (.inr e0) (by decide) (by omega) (by omega) (by decide) (by decide) (fun u hu => by omega) ?_
  have h1 : ((-1074 : Int) - e).toNat = 0 := by omega
  have h2 : (e - (-1074)).toNat = (e + 1074).toNat := by omega
  rw [h1, h2]; exact hr
set_option maxHeartbeats 1000000 in
theorem fi_pos (i : Int) (m r : Nat) (w : World) (h : ¬ i < 0) (hi : IntKind.u64.wrap i = (m : Int)) (hw : IntKind.u64.wrap (r : Int) = (r : Int)) (S : Hid (∀ w, Calls Tryz.prog 103 #[.int .u64 (m : Nat), .int .i64 0, .int .i64 52, .int .i64 (-1074), .int .u64 9218868437227405312] w fun e w' => e = .returned (.int .u64 (r : Nat)) ∧ w' = w)) :
    Calls Tryz.prog 69 #[.int .i64 i] w fun e w' => e = .returned (.float .f64 r) ∧ w' = w := by
  go_enter Tryz.func69, Tryz.ntmps69
  go_wp2_with fail
  refine (S.out _).mono ?_
  rintro e w' ⟨rfl, rfl⟩
  go_wp2_with fail
  refine (from_at (r : Int) r _ (by omega)).mono ?_
  rintro e w' ⟨rfl, rfl⟩
  go_wp2
  go_ret
  exact ⟨rfl, rfl⟩

set_option maxHeartbeats 1000000 in
theorem fi_neg (i : Int) (a m r s : Nat) (w : World) (h : i < 0) (hi : IntKind.u64.wrap i = (a : Int)) (ha : IntKind.u64.wrap (-(a : Int)) = (m : Int)) (hw : IntKind.u64.wrap (9223372036854775808 + (r : Int)) = (s : Int)) (S : Hid (∀ w, Calls Tryz.prog 103 #[.int .u64 (m : Nat), .int .i64 0, .int .i64 52, .int .i64 (-1074), .int .u64 9218868437227405312] w fun e w' => e = .returned (.int .u64 (r : Nat)) ∧ w' = w)) :
    Calls Tryz.prog 69 #[.int .i64 i] w fun e w' => e = .returned (.float .f64 s) ∧ w' = w := by
  go_enter Tryz.func69, Tryz.ntmps69
  go_wp2_with fail
  refine (S.out _).mono ?_
  rintro e w' ⟨rfl, rfl⟩
  go_wp2_with fail
  refine (from_at (s : Int) s _ (by omega)).mono ?_
  rintro e w' ⟨rfl, rfl⟩
  go_wp2
  go_ret
  exact ⟨rfl, rfl⟩

theorem refFromInt_at (i : Int) (r : Nat) (w : World) (i0 : -9223372036854775808 ≤ i) (i1 : i ≤ 9223372036854775807) (hr : rn false (i * one) = r) :
    Calls Tryz.prog 69 #[.int .i64 i] w fun e w' => e = .returned (.float .f64 r) ∧ w' = w := by
  have hK : (1074 : Nat) = K := rfl
  have hab : (i * (one : Int)).natAbs = i.natAbs * one := by rw [Int.natAbs_mul, Int.natAbs_natCast]
  have ho : ((0 : Int) + 1074).toNat = K := by rw [K_eq]; decide
  have hs := fun w => small52 i.natAbs 0 _ w (by omega) (by decide) (by decide) rfl
  rw [ho, ← one_pow] at hs
  have hlt : min (rung 52 0 (i.natAbs * one)) 9218868437227405312 ≤ 9218868437227405312 := Nat.min_le_right _ _
  have hp := onep
  have hrn : rn false (i * one) = if i < 0 then 9223372036854775808 + min (rung 52 0 (i.natAbs * one)) 9218868437227405312 else min (rung 52 0 (i.natAbs * one)) 9218868437227405312 := by
    unfold rn
    rw [hab]
    have h2 : (if i * (one : Int) = 0 then false else decide (i * (one : Int) < 0)) = decide (i < 0) := by
      by_cases c : i = 0
      · subst c; simp
      · have c' : ¬ i * (one : Int) = 0 := by rw [Int.mul_eq_zero]; omega
        rw [if_neg c']
        have : i * (one : Int) < 0 ↔ i < 0 := by
          have : i * (one : Int) < 0 * (one : Int) ↔ i < 0 := Int.mul_lt_mul_right hp
          rwa [Int.zero_mul] at this
        exact decide_eq_decide.2 this
    rw [h2]
    by_cases c : i < 0
    · rw [decide_eq_true c, if_pos rfl, if_pos c]
    · rw [decide_eq_false c, if_neg (by decide), if_neg c]
  rw [hrn] at hr
  generalize min (rung 52 0 (i.natAbs * one)) 9218868437227405312 = q at *
  by_cases c : i < 0
  · rw [if_pos c] at hr
    subst hr
    have w1 : IntKind.u64.wrap i = ((18446744073709551616 - i.natAbs : Nat) : Int) := by
      simp [IntKind.wrap, IntKind.bits, IntKind.signed]; omega
    have w2 : IntKind.u64.wrap (-((18446744073709551616 - i.natAbs : Nat) : Int)) = (i.natAbs : Int) := by
      simp [IntKind.wrap, IntKind.bits, IntKind.signed]; omega
    exact fi_neg i _ _ q (9223372036854775808 + q) w c w1 w2 (by rw [wrap_id] <;> omega) hs
  · rw [if_neg c] at hr
    subst hr
    exact fi_pos i i.natAbs q w c (by rw [wrap_id] <;> omega) (by rw [wrap_id] <;> omega) hs
end Go.Proofs.YtbibhgikmnpbfaaGreatDoor.Ref2

namespace Go.Proofs.YtbibhgikmnpbfaaGreatDoor
open Go.RowKit Tf Cu
attribute [local go_sem] run_bits run_from raw_feq raw_fne raw_flt raw_fgt run_neg run_store_float
def fC (f : Nat) : Int := [1, 2, -1, -2, 3, -3].getD f 0
def fR (f : Nat) : Int := [2, -1, -2, 1, 2, 2].getD f 0
def fU (f : Nat) : Int := [3, 3, 3, 3, -1, 1].getD f 0
set_option maxHeartbeats 4000000 in
theorem rframe8_at (f : Nat) (w : World) (hf : f < 6) :
    Calls Tryz.prog 175 #[.int .i64 f] w fun e w' => e = .returned (.tuple #[.int .i64 (fC f), .int .i64 (fR f), .int .i64 (fU f)]) ∧ Below w.heap.size w w' := by
  rcases six hf with rfl | rfl | rfl | rfl | rfl | rfl
  all_goals
    go_enter Tryz.func175, Tryz.ntmps175
    go_wp2
    go_quiet (fail)
    go_wp2
    refine bodyPost_ret (by simp [results, Tryz.results175, go_sem]; exact ⟨rfl, rfl, rfl⟩) rfl ⟨rfl, ?_⟩
    exact Ab.drewN (bl3 w _ _ _) _
def alV (a b : Int) (x : Nat) : Nat := if a = b then x else if a = -b then negB x else 0
def alO (a b : Int) : Bool := decide (a = b) || decide (a = -b)
set_option maxHeartbeats 2000000 in
theorem ralong8_at (a b : Int) (x : Nat) (w : World) (hx : x < 18446744073709551616) (ha : -3 ≤ a ∧ a ≤ 3) (hb : -3 ≤ b ∧ b ≤ 3) :
    Calls Tryz.prog 176 #[.int .i64 a, .int .i64 b, .float .f64 x] w fun e w' => e = .returned (.tuple #[.float .f64 (alV a b x), .bool (alO a b)]) ∧ w' = w := by
  have n0 := negFloat_eq x hx
  clear hx
  by_cases h1 : a = b
  · have e1 : alV a b x = x := by unfold alV; rw [if_pos h1]
    have e2 : alO a b = true := by unfold alO; rw [decide_eq_true h1]; rfl
    rw [e1, e2]
    clear e1 e2
    go_enter Tryz.func176, Tryz.ntmps176
    go_wp2
    go_ret2
    exact ⟨rfl, rfl⟩
  · by_cases h2 : a = -b
    · have e1 : alV a b x = negB x := by unfold alV; rw [if_neg h1, if_pos h2]
      have e2 : alO a b = true := by unfold alO; rw [decide_eq_true h2, Bool.or_true]
      rw [e1, e2]
      clear e1 e2
      go_enter Tryz.func176, Tryz.ntmps176
      go_wp2
      go_ret2
      exact ⟨rfl, rfl⟩
    · have e1 : alV a b x = 0 := by unfold alV; rw [if_neg h1, if_neg h2]
      have e2 : alO a b = false := by unfold alO; rw [decide_eq_false h1, decide_eq_false h2]; rfl
      rw [e1, e2]
      clear e1 e2
      go_enter Tryz.func176, Tryz.ntmps176
      go_wp2
      go_ret2
      exact ⟨rfl, rfl⟩
/-- what lies along an axis -/
def cmp (f : Nat) (b : Int) (p q : Nat) : Nat := if alO (fC f) b then alV (fC f) b 4607182418800017408 else if alO (fR f) b then alV (fR f) b p else alV (fU f) b q
theorem cmp_oc {f : Nat} (hf : f < 6) (p q : Nat) : cmp f 1 p q = (oc f p q).1 ∧ cmp f 2 p q = (oc f p q).2.1 ∧ cmp f 3 p q = (oc f p q).2.2 := by
  rcases six hf with rfl | rfl | rfl | rfl | rfl | rfl <;> simp [cmp, alO, alV, fC, fR, fU, oc] <;> decide
theorem fr_le {f : Nat} (hf : f < 6) : (-3 ≤ fC f ∧ fC f ≤ 3) ∧ (-3 ≤ fR f ∧ fR f ≤ 3) ∧ (-3 ≤ fU f ∧ fU f ≤ 3) := by
  rcases six hf with rfl | rfl | rfl | rfl | rfl | rfl <;> decide
set_option maxHeartbeats 4000000 in
theorem rcomp8_at (f : Nat) (b : Int) (p q : Nat) (w : World) (hf : f < 6) (hb : -3 ≤ b ∧ b ≤ 3) (hp : p < 18446744073709551616) (hq : q < 18446744073709551616) :
    Calls Tryz.prog 167 #[.int .i64 f, .int .i64 b, .float .f64 p, .float .f64 q] w fun e w' => e = .returned (.float .f64 (canonB (cmp f b p q))) ∧ Below w.heap.size w w' := by
  obtain ⟨k1, k2, k3⟩ := fr_le hf
  have FR := hid (fun u => rframe8_at f u hf)
  have A1 := hid (fun u => ralong8_at (fC f) b 4607182418800017408 u (by omega) k1 hb)
  have A2 := hid (fun u => ralong8_at (fR f) b p u hp k2 hb)
  have A3 := hid (fun u => ralong8_at (fU f) b q u hq k3 hb)
  have C1 := hid (fun u => rcanon_any (alV (fC f) b 4607182418800017408) u)
  have C2 := hid (fun u => rcanon_any (alV (fR f) b p) u)
  have C3 := hid (fun u => rcanon_any (alV (fU f) b q) u)
  unfold cmp
  generalize alV (fC f) b 4607182418800017408 = x1 at *
  generalize alV (fR f) b p = x2 at *
  generalize alV (fU f) b q = x3 at *
  generalize alO (fC f) b = o1 at *
  generalize alO (fR f) b = o2 at *
  generalize alO (fU f) b = o3 at *
  generalize fC f = c at *
  generalize fR f = r at *
  generalize fU f = u at *
  clear hf hb hp hq k1 k2 k3
  cases o1 with
  | true =>
    rw [if_pos rfl]
    go_enter Tryz.func167, Tryz.ntmps167
    go_wp2_with fail
    refine (FR.out _).mono ?_
    rintro e v ⟨rfl, b1⟩
    go_wp2_with fail
    refine (A1.out _).mono ?_
    rintro e v2 ⟨rfl, rfl⟩
    go_wp2_with fail
    refine (C1.out _).mono ?_
    rintro e v3 ⟨rfl, rfl⟩
    go_wp2
    go_ret
    exact ⟨rfl, b1⟩
  | false =>
    rw [if_neg Bool.false_ne_true]
    cases o2 with
    | true =>
      rw [if_pos rfl]
      go_enter Tryz.func167, Tryz.ntmps167
      go_wp2_with fail
      refine (FR.out _).mono ?_
      rintro e v ⟨rfl, b1⟩
      go_wp2_with fail
      refine (A1.out _).mono ?_
      rintro e v2 ⟨rfl, rfl⟩
      go_wp2_with fail
      refine (A2.out _).mono ?_
      rintro e v3 ⟨rfl, rfl⟩
      go_wp2_with fail
      refine (C2.out _).mono ?_
      rintro e v4 ⟨rfl, rfl⟩
      go_wp2
      go_ret
      exact ⟨rfl, b1⟩
    | false =>
      rw [if_neg Bool.false_ne_true]
      go_enter Tryz.func167, Tryz.ntmps167
      go_wp2_with fail
      refine (FR.out _).mono ?_
      rintro e v ⟨rfl, b1⟩
      go_wp2_with fail
      refine (A1.out _).mono ?_
      rintro e v2 ⟨rfl, rfl⟩
      go_wp2_with fail
      refine (A2.out _).mono ?_
      rintro e v3 ⟨rfl, rfl⟩
      go_wp2_with fail
      refine (A3.out _).mono ?_
      rintro e v4 ⟨rfl, rfl⟩
      go_wp2_with fail
      refine (C3.out _).mono ?_
      rintro e v5 ⟨rfl, rfl⟩
      go_wp2
      go_ret
      exact ⟨rfl, b1⟩
set_option maxHeartbeats 2000000 in
theorem rratio_at (k n : Int) (w : World) (hk : -1000 ≤ k ∧ k ≤ 1000) (hn : -1000 ≤ n ∧ n ≤ 1000) :
    Calls Tryz.prog 144 #[.int .i64 k, .int .i64 n] w fun e w' => ∃ r m, e = .returned (.float .f64 r) ∧ w' = w.drewN m ∧ Hid (IsC r (dvB (fB k) (fB n))) := by
  have F1 : Hid (∀ w, Calls Tryz.prog 69 #[.int .i64 k] w fun e w' => e = .returned (.float .f64 (fB k)) ∧ w' = w) := fun w => Ref2.refFromInt_at k _ w (by omega) (by omega) rfl
  have F2 : Hid (∀ w, Calls Tryz.prog 69 #[.int .i64 n] w fun e w' => e = .returned (.float .f64 (fB n)) ∧ w' = w) := fun w => Ref2.refFromInt_at n _ w (by omega) (by omega) rfl
  obtain ⟨r, m, hr, hc⟩ := div_any (P := Tryz.prog) w (fB k) (fB n)
  have HC := hid hc
  generalize dvB (fB k) (fB n) = d at *
  generalize fB k = x at *
  generalize fB n = y at *
  clear hc hk hn
  go_enter Tryz.func144, Tryz.ntmps144
  go_wp2_with fail
  refine (F1.out _).mono ?_
  rintro e v2 ⟨rfl, rfl⟩
  go_wp2_with fail
  refine (F2.out _).mono ?_
  rintro e v3 ⟨rfl, rfl⟩
  go_wp2
  go_ret
  exact ⟨r, m, rfl, rfl, HC⟩
end Go.Proofs.YtbibhgikmnpbfaaGreatDoor

namespace Go.Proofs.YtbibhgikmnpbfaaGreatDoor
open Go.RowKit Tf Cu
attribute [local go_sem] run_bits run_from raw_feq raw_fne raw_flt raw_fgt run_neg run_store_float
set_option maxHeartbeats 8000000 in
theorem rpoint8_at (n f p q : Nat) (k h : Int) (w : World) (n1 : 1 ≤ n) (n2 : n ≤ 32) (hf : f < 6) (hp : IsC p (qo n k)) (hq : IsC q (qo n h)) :
    Calls Tryz.prog 143 #[.int .i64 f, .float .f64 p, .float .f64 q] w fun e w' => e = .returned (.agg #[.float .f64 (px n (fp n f k h)), .float .f64 (py n (fp n f k h)), .float .f64 (pz n (fp n f k h))]) ∧ Below w.heap.size w w' := by
  obtain ⟨c1, c2, c3⟩ := oc_fp n1 n2 hf hp hq
  obtain ⟨d1, d2, d3⟩ := cmp_oc hf p q
  have K1 := hid (fun u => rcomp8_at f 1 p q u hf (by omega) hp.1 hq.1)
  have K2 := hid (fun u => rcomp8_at f 2 p q u hf (by omega) hp.1 hq.1)
  have K3 := hid (fun u => rcomp8_at f 3 p q u hf (by omega) hp.1 hq.1)
  rw [d1, c1] at K1
  rw [d2, c2] at K2
  rw [d3, c3] at K3
  have UN := hid (fun w => runit_at _ _ _ w (qo_lt n (fp n f k h).1) (qo_lt n (fp n f k h).2.1) (qo_lt n (fp n f k h).2.2))
  have hux : unB (lnB (qo n (fp n f k h).1) (qo n (fp n f k h).2.1) (qo n (fp n f k h).2.2)) (qo n (fp n f k h).1) = px n (fp n f k h) := rfl
  have huy : unB (lnB (qo n (fp n f k h).1) (qo n (fp n f k h).2.1) (qo n (fp n f k h).2.2)) (qo n (fp n f k h).2.1) = py n (fp n f k h) := rfl
  have huz : unB (lnB (qo n (fp n f k h).1) (qo n (fp n f k h).2.1) (qo n (fp n f k h).2.2)) (qo n (fp n f k h).2.2) = pz n (fp n f k h) := rfl
  rw [hux, huy, huz] at UN
  clear hux huy huz c1 c2 c3 d1 d2 d3 hp hq n1 n2 hf
  generalize px n (fp n f k h) = a at *
  generalize py n (fp n f k h) = b at *
  generalize pz n (fp n f k h) = c at *
  generalize qo n (fp n f k h).1 = x at *
  generalize qo n (fp n f k h).2.1 = y at *
  generalize qo n (fp n f k h).2.2 = z at *
  have A0 := hid (bl1 w (.cells #[.float .f64 0, .float .f64 0, .float .f64 0] 131))
  have R0 := hid (heap_alloc_new w (.cells #[.float .f64 0, .float .f64 0, .float .f64 0] 131))
  go_enter Tryz.func143, Tryz.ntmps143
  go_wp2_with fail
  refine (K1.out _).mono ?_
  rintro e v1 ⟨rfl, b1⟩
  go_wp2_with fail
  refine (K2.out _).mono ?_
  rintro e v2 ⟨rfl, b2⟩
  go_wp2_with fail
  refine (K3.out _).mono ?_
  rintro e v3 ⟨rfl, b3⟩
  go_wp2_with fail
  refine (UN.out _).mono ?_
  rintro e v4 ⟨rfl, b4⟩
  have A4 : Hid (Ab w v4) := Ab.call (Ab.call (Ab.call (Ab.call A0.out b1) b2) b3) b4
  have r0 : v4.heap[w.heap.size]? = some (.cells #[.float .f64 0, .float .f64 0, .float .f64 0] 131) := Ab.heap b4 (Ab.heap b3 (Ab.heap b2 (Ab.heap b1 R0.out)))
  obtain ⟨⟨o0, o1, o2⟩, o3, o4, o5⟩ := rowfacts r0
  have R4 := hid r0
  clear r0 b1 b2 b3 b4 A0 R0
  go_wp2
  refine bodyPost_ret ?_ rfl ⟨rfl, ?_⟩
  · exact results_cell_row Tryz.results143 _ _ w.heap.size _ _ (0, 0) _ rfl (row3 R4.out) Tryz.underlying131 rfl (by kernel_rfl)
  · exact ((Ab.setk A4.out (by omega) _).setk (by omega) _).setk (by omega) _
set_option maxHeartbeats 4000000 in
theorem rcorner_ok (n f i j : Nat) (w : World) (hn : 1 ≤ n ∧ n ≤ 32) (hf : f < 6) (hi : i ≤ n) (hj : j ≤ n) :
    Calls Tryz.prog 104 #[.int .i64 n, .int .i64 f, .int .i64 i, .int .i64 j] w fun e w' => e = .returned (.tuple #[.agg #[.float .f64 (px n (cr n f i j)), .float .f64 (py n (cr n f i j)), .float .f64 (pz n (cr n f i j))], .bool true]) ∧ Below w.heap.size w w' := by
  have PA : Hid (∀ (k : Int) u, -1000 ≤ k ∧ k ≤ 1000 → Calls Tryz.prog 144 #[.int .i64 k, .int .i64 n] u fun e w' => ∃ r m, e = .returned (.float .f64 r) ∧ w' = u.drewN m ∧ Hid (IsC r (qo n k))) := fun k u hk => rratio_at k n u hk (by omega)
  have PO : Hid (∀ p q u, Hid (IsC p (qo n (2 * i - n))) → Hid (IsC q (qo n (2 * j - n))) → Calls Tryz.prog 143 #[.int .i64 f, .float .f64 p, .float .f64 q] u fun e w' => e = .returned (.agg #[.float .f64 (px n (cr n f i j)), .float .f64 (py n (cr n f i j)), .float .f64 (pz n (cr n f i j))]) ∧ Below u.heap.size u w') := fun p q u hp hq => rpoint8_at n f p q _ _ u hn.1 hn.2 hf hp hq
  generalize px n (cr n f i j) = a at *
  generalize py n (cr n f i j) = b at *
  generalize pz n (cr n f i j) = c at *
  have A0 := hid (bl1 w (.cells #[.float .f64 0, .float .f64 0, .float .f64 0] 131))
  have R0 := hid (heap_alloc_new w (.cells #[.float .f64 0, .float .f64 0, .float .f64 0] 131))
  have hi2 : (i : Int) ≤ 32 := by omega
  have hj2 : (j : Int) ≤ 32 := by omega
  have hn2 : (n : Int) ≤ 32 := by omega
  have hn1 : 1 ≤ (n : Int) := by omega
  have hf2 : (f : Int) ≤ 5 := by omega
  have hi3 : (i : Int) ≤ n := by omega
  have hj3 : (j : Int) ≤ n := by omega
  clear hn hf hi hj
  go_enter Tryz.func104, Tryz.ntmps104
  go_wp2_with fail
  refine (PA.out _ _ (by omega)).mono ?_
  rintro e w1 ⟨p, m1, rfl, rfl, hp⟩
  go_wp2_with fail
  refine (PA.out _ _ (by omega)).mono ?_
  rintro e w1 ⟨q, m2, rfl, rfl, hq⟩
  go_wp2_with fail
  refine (PO.out _ _ _ hp hq).mono ?_
  rintro e w3 ⟨rfl, b3⟩
  have A3 : Hid (Ab w w3) := Ab.call (Ab.drewN A0.out _) b3
  have r0 : w3.heap[w.heap.size]? = some (.cells #[.float .f64 0, .float .f64 0, .float .f64 0] 131) := Ab.heap b3 R0.out
  obtain ⟨⟨o0, o1, o2⟩, o3, o4, o5⟩ := rowfacts r0
  have R3 := hid r0
  clear r0 b3 A0 R0
  go_wp2
  refine bodyPost_ret ?_ rfl ⟨rfl, ?_⟩
  · exact res_two Tryz.results104 _ _ w.heap.size _ _ (0, 0) _ _ rfl rfl (row3 R3.out) Tryz.underlying131 rfl (by kernel_rfl)
  · exact ((Ab.setk A3.out (by omega) _).setk (by omega) _).setk (by omega) _
theorem rplace_okN (n c : Nat) (hn : 1 ≤ n ∧ n ≤ 32) (hc : c < 6 * n * n) (w : World) :
    Calls Tryz.prog 101 #[.int .i64 n, .int .i64 c] w fun e w' => e = .returned (.tuple #[.int .i64 (cf n c), .int .i64 (ci n c), .int .i64 (cj n c), .bool true]) ∧ ∃ k, w' = w.drewN k := by
  have h := rplace_at n c w
  have hin : inR c (clN n) = true := by rw [inR_iff, clN_nat hn]; omega
  rw [hin, show pF n c = (cf n c : Nat) by simp [pF, hin, cf], show pI n c = (ci n c : Nat) by simp [pI, hin, ci], show pJ n c = (cj n c : Nat) by simp [pJ, hin, cj]] at h
  exact h
end Go.Proofs.YtbibhgikmnpbfaaGreatDoor

namespace Go.Proofs.YtbibhgikmnpbfaaGreatDoor
open Go.RowKit Tf Cu
attribute [local go_sem] run_bits run_from raw_feq raw_fne raw_flt raw_fgt run_neg run_store_float
set_option maxRecDepth 10000 in
set_option maxHeartbeats 16000000 in
theorem rarea_walk (n c f i j : Nat) (a0 b0 d0 a1 b1 d1 a2 b2 d2 a3 b3 d3 : Nat) (w : World) (hi : (i : Int) ≤ 32) (hj : (j : Int) ≤ 32) (ha0 : Hid (a0 < 18446744073709551616)) (hb0 : Hid (b0 < 18446744073709551616)) (hd0 : Hid (d0 < 18446744073709551616)) (ha1 : Hid (a1 < 18446744073709551616)) (hb1 : Hid (b1 < 18446744073709551616)) (hd1 : Hid (d1 < 18446744073709551616)) (ha2 : Hid (a2 < 18446744073709551616)) (hb2 : Hid (b2 < 18446744073709551616)) (hd2 : Hid (d2 < 18446744073709551616)) (ha3 : Hid (a3 < 18446744073709551616)) (hb3 : Hid (b3 < 18446744073709551616)) (hd3 : Hid (d3 < 18446744073709551616))
    (PL : Hid (∀ u, Calls Tryz.prog 101 #[.int .i64 n, .int .i64 c] u fun e w' => e = .returned (.tuple #[.int .i64 f, .int .i64 i, .int .i64 j, .bool true]) ∧ ∃ k, w' = u.drewN k))
    (K0 : Hid (∀ u, Calls Tryz.prog 104 #[.int .i64 n, .int .i64 f, .int .i64 (i : Nat), .int .i64 (j : Nat)] u fun e w' => e = .returned (.tuple #[.agg #[.float .f64 a0, .float .f64 b0, .float .f64 d0], .bool true]) ∧ Below u.heap.size u w'))
    (K1 : Hid (∀ u, Calls Tryz.prog 104 #[.int .i64 n, .int .i64 f, .int .i64 ((i : Nat) + 1), .int .i64 (j : Nat)] u fun e w' => e = .returned (.tuple #[.agg #[.float .f64 a1, .float .f64 b1, .float .f64 d1], .bool true]) ∧ Below u.heap.size u w'))
    (K2 : Hid (∀ u, Calls Tryz.prog 104 #[.int .i64 n, .int .i64 f, .int .i64 ((i : Nat) + 1), .int .i64 ((j : Nat) + 1)] u fun e w' => e = .returned (.tuple #[.agg #[.float .f64 a2, .float .f64 b2, .float .f64 d2], .bool true]) ∧ Below u.heap.size u w'))
    (K3 : Hid (∀ u, Calls Tryz.prog 104 #[.int .i64 n, .int .i64 f, .int .i64 (i : Nat), .int .i64 ((j : Nat) + 1)] u fun e w' => e = .returned (.tuple #[.agg #[.float .f64 a3, .float .f64 b3, .float .f64 d3], .bool true]) ∧ Below u.heap.size u w')) :
    Calls Tryz.prog 70 #[.int .i64 n, .int .i64 c] w fun e w' => e = .returned (.int .i64 (arI (cl (sbB a2 a0) (sbB b2 b0) (sbB d2 d0) (sbB a3 a1) (sbB b3 b1) (sbB d3 d1)))) ∧ Below w.heap.size w w' := by
  have MI := hid (fun x y z u v t w (hx : Hid (x < 18446744073709551616)) (hy : Hid (y < 18446744073709551616)) (hz : Hid (z < 18446744073709551616)) (hu : Hid (u < 18446744073709551616)) (hv : Hid (v < 18446744073709551616)) (ht : Hid (t < 18446744073709551616)) => rminus_at x y z u v t w hx hy hz hu hv ht)
  have CR := hid (fun w => rcross_at (sbB a2 a0) (sbB b2 b0) (sbB d2 d0) (sbB a3 a1) (sbB b3 b1) (sbB d3 d1) w (sbB_lt ha2 ha0) (sbB_lt hb2 hb0) (sbB_lt hd2 hd0) (sbB_lt ha3 ha1) (sbB_lt hb3 hb1) (sbB_lt hd3 hd1))
  have LN : Hid (∀ w, Calls Tryz.prog 105 #[.agg #[.float .f64 (sbB (mlB (sbB b2 b0) (sbB d3 d1)) (mlB (sbB d2 d0) (sbB b3 b1))), .float .f64 (sbB (mlB (sbB d2 d0) (sbB a3 a1)) (mlB (sbB a2 a0) (sbB d3 d1))), .float .f64 (sbB (mlB (sbB a2 a0) (sbB b3 b1)) (mlB (sbB b2 b0) (sbB a3 a1)))]] w fun e w' => e = .returned (.float .f64 (cl (sbB a2 a0) (sbB b2 b0) (sbB d2 d0) (sbB a3 a1) (sbB b3 b1) (sbB d3 d1))) ∧ Below w.heap.size w w') := fun w => rlength_at (sbB (mlB (sbB b2 b0) (sbB d3 d1)) (mlB (sbB d2 d0) (sbB b3 b1))) (sbB (mlB (sbB d2 d0) (sbB a3 a1)) (mlB (sbB a2 a0) (sbB d3 d1))) (sbB (mlB (sbB a2 a0) (sbB b3 b1)) (mlB (sbB b2 b0) (sbB a3 a1))) w (sbB_lt (mlB_lt (sbB_lt hb2 hb0) (sbB_lt hd3 hd1)) (mlB_lt (sbB_lt hd2 hd0) (sbB_lt hb3 hb1))) (sbB_lt (mlB_lt (sbB_lt hd2 hd0) (sbB_lt ha3 ha1)) (mlB_lt (sbB_lt ha2 ha0) (sbB_lt hd3 hd1))) (sbB_lt (mlB_lt (sbB_lt ha2 ha0) (sbB_lt hb3 hb1)) (mlB_lt (sbB_lt hb2 hb0) (sbB_lt ha3 ha1)))
  have lL : cl (sbB a2 a0) (sbB b2 b0) (sbB d2 d0) (sbB a3 a1) (sbB b3 b1) (sbB d3 d1) < 18446744073709551616 := by unfold cl lnB; exact rtB_lt _
  generalize cl (sbB a2 a0) (sbB b2 b0) (sbB d2 d0) (sbB a3 a1) (sbB b3 b1) (sbB d3 d1) = L at *
  generalize sbB (mlB (sbB b2 b0) (sbB d3 d1)) (mlB (sbB d2 d0) (sbB b3 b1)) = c1 at *
  generalize sbB (mlB (sbB d2 d0) (sbB a3 a1)) (mlB (sbB a2 a0) (sbB d3 d1)) = c2 at *
  generalize sbB (mlB (sbB a2 a0) (sbB b3 b1)) (mlB (sbB b2 b0) (sbB a3 a1)) = c3 at *
  have hmx : arI L = max (cI .even (arQ L)) 1 := by unfold arI; with_reducible rfl
  obtain ⟨A, hA⟩ : ∃ A, cI .even (arQ L) = A := ⟨_, rfl⟩
  obtain ⟨ok, hok⟩ : ∃ ok, cOk .even (arQ L) = ok := ⟨_, rfl⟩
  rw [hmx, hA]
  have HA := hid hA
  have HO := hid hok
  clear hmx hA hok
  go_enter Tryz.func70, Tryz.ntmps70
  go_wp2_with fail
  refine Calls.mono (PL.out _) ?_
  rintro e vv ⟨rfl, k1, rfl⟩
  have AW1 : Hid (Ab w (w.drewN k1)) := Ab.drewN (Ab.refl w) _
  go_wp2_with fail
  refine Calls.mono (K0.out _) ?_
  rintro e v2 ⟨rfl, b2⟩
  have AV2 : Hid (Ab w v2) := Ab.call AW1.out b2
  have RA2 : Hid ((v2.alloc (.cells #[.float .f64 a0, .float .f64 b0, .float .f64 d0] 131)).heap[v2.heap.size]? = some (.cells #[.float .f64 a0, .float .f64 b0, .float .f64 d0] 131)) := heap_alloc_new _ _
  have AW2 : Hid (Ab w (v2.alloc (.cells #[.float .f64 a0, .float .f64 b0, .float .f64 d0] 131))) := AV2.out.call (bl1 v2 (.cells #[.float .f64 a0, .float .f64 b0, .float .f64 d0] 131))
  clear b2 AV2 AW1
  go_wp2_with fail
  refine Calls.mono (K1.out _) ?_
  rintro e v3 ⟨rfl, b3⟩
  have AV3 : Hid (Ab w v3) := Ab.call AW2.out b3
  have RA3 : Hid ((v3.alloc (.cells #[.float .f64 a1, .float .f64 b1, .float .f64 d1] 131)).heap[v2.heap.size]? = some (.cells #[.float .f64 a0, .float .f64 b0, .float .f64 d0] 131)) := Ab.heap (bl1 v3 (.cells #[.float .f64 a1, .float .f64 b1, .float .f64 d1] 131)) (Ab.heap b3 RA2.out)
  have RB3 : Hid ((v3.alloc (.cells #[.float .f64 a1, .float .f64 b1, .float .f64 d1] 131)).heap[v3.heap.size]? = some (.cells #[.float .f64 a1, .float .f64 b1, .float .f64 d1] 131)) := heap_alloc_new _ _
  have AW3 : Hid (Ab w (v3.alloc (.cells #[.float .f64 a1, .float .f64 b1, .float .f64 d1] 131))) := AV3.out.call (bl1 v3 (.cells #[.float .f64 a1, .float .f64 b1, .float .f64 d1] 131))
  clear b3 AV3 RA2 AW2
  go_wp2_with fail
  refine Calls.mono (K2.out _) ?_
  rintro e v4 ⟨rfl, b4⟩
  have AV4 : Hid (Ab w v4) := Ab.call AW3.out b4
  have RA4 : Hid ((v4.alloc (.cells #[.float .f64 a2, .float .f64 b2, .float .f64 d2] 131)).heap[v2.heap.size]? = some (.cells #[.float .f64 a0, .float .f64 b0, .float .f64 d0] 131)) := Ab.heap (bl1 v4 (.cells #[.float .f64 a2, .float .f64 b2, .float .f64 d2] 131)) (Ab.heap b4 RA3.out)
  have RB4 : Hid ((v4.alloc (.cells #[.float .f64 a2, .float .f64 b2, .float .f64 d2] 131)).heap[v3.heap.size]? = some (.cells #[.float .f64 a1, .float .f64 b1, .float .f64 d1] 131)) := Ab.heap (bl1 v4 (.cells #[.float .f64 a2, .float .f64 b2, .float .f64 d2] 131)) (Ab.heap b4 RB3.out)
  have RC4 : Hid ((v4.alloc (.cells #[.float .f64 a2, .float .f64 b2, .float .f64 d2] 131)).heap[v4.heap.size]? = some (.cells #[.float .f64 a2, .float .f64 b2, .float .f64 d2] 131)) := heap_alloc_new _ _
  have AW4 : Hid (Ab w (v4.alloc (.cells #[.float .f64 a2, .float .f64 b2, .float .f64 d2] 131))) := AV4.out.call (bl1 v4 (.cells #[.float .f64 a2, .float .f64 b2, .float .f64 d2] 131))
  clear b4 AV4 RA3 RB3 AW3
  go_wp2_with fail
  refine Calls.mono (K3.out _) ?_
  rintro e v5 ⟨rfl, b5⟩
  have AV5 : Hid (Ab w v5) := Ab.call AW4.out b5
  have RA5 : Hid ((v5.alloc (.cells #[.float .f64 a3, .float .f64 b3, .float .f64 d3] 131)).heap[v2.heap.size]? = some (.cells #[.float .f64 a0, .float .f64 b0, .float .f64 d0] 131)) := Ab.heap (bl1 v5 (.cells #[.float .f64 a3, .float .f64 b3, .float .f64 d3] 131)) (Ab.heap b5 RA4.out)
  have RB5 : Hid ((v5.alloc (.cells #[.float .f64 a3, .float .f64 b3, .float .f64 d3] 131)).heap[v3.heap.size]? = some (.cells #[.float .f64 a1, .float .f64 b1, .float .f64 d1] 131)) := Ab.heap (bl1 v5 (.cells #[.float .f64 a3, .float .f64 b3, .float .f64 d3] 131)) (Ab.heap b5 RB4.out)
  have RC5 : Hid ((v5.alloc (.cells #[.float .f64 a3, .float .f64 b3, .float .f64 d3] 131)).heap[v4.heap.size]? = some (.cells #[.float .f64 a2, .float .f64 b2, .float .f64 d2] 131)) := Ab.heap (bl1 v5 (.cells #[.float .f64 a3, .float .f64 b3, .float .f64 d3] 131)) (Ab.heap b5 RC4.out)
  have RD5 : Hid ((v5.alloc (.cells #[.float .f64 a3, .float .f64 b3, .float .f64 d3] 131)).heap[v5.heap.size]? = some (.cells #[.float .f64 a3, .float .f64 b3, .float .f64 d3] 131)) := heap_alloc_new _ _
  have AW5 : Hid (Ab w (v5.alloc (.cells #[.float .f64 a3, .float .f64 b3, .float .f64 d3] 131))) := AV5.out.call (bl1 v5 (.cells #[.float .f64 a3, .float .f64 b3, .float .f64 d3] 131))
  clear b5 AV5 RA4 RB4 RC4 AW4
  go_upto_region 8 with fail
  generalize hW : World.alloc _ _ = W
  have AW : Hid (Ab w W) := by rw [← hW]; exact AW5.out
  have GA : Hid (W.heap[v2.heap.size]? = some (.cells #[.float .f64 a0, .float .f64 b0, .float .f64 d0] 131)) := by rw [← hW]; exact RA5.out
  have GB : Hid (W.heap[v3.heap.size]? = some (.cells #[.float .f64 a1, .float .f64 b1, .float .f64 d1] 131)) := by rw [← hW]; exact RB5.out
  have GC : Hid (W.heap[v4.heap.size]? = some (.cells #[.float .f64 a2, .float .f64 b2, .float .f64 d2] 131)) := by rw [← hW]; exact RC5.out
  have GD : Hid (W.heap[v5.heap.size]? = some (.cells #[.float .f64 a3, .float .f64 b3, .float .f64 d3] 131)) := by rw [← hW]; exact RD5.out
  clear hW AW5 RA5 RB5 RC5 RD5 K0 K1 K2 K3 PL
  obtain ⟨UU, F, hF1, hF2⟩ := cls W
  have HF := hid hF2
  have HF1 := hid hF1
  have xA0 : ∀ vv, (F vv).cell? ⟨v2.heap.size, 0, none⟩ = some (.float .f64 a0) := fun vv => cell_of_row _ _ 0 _ _ _ ((hF1 vv).heap GA.out)
  have xA1 : ∀ vv, (F vv).cell? ⟨v2.heap.size, 1, none⟩ = some (.float .f64 b0) := fun vv => cell_of_row _ _ 1 _ _ _ ((hF1 vv).heap GA.out)
  have xA2 : ∀ vv, (F vv).cell? ⟨v2.heap.size, 2, none⟩ = some (.float .f64 d0) := fun vv => cell_of_row _ _ 2 _ _ _ ((hF1 vv).heap GA.out)
  have xB0 : ∀ vv, (F vv).cell? ⟨v3.heap.size, 0, none⟩ = some (.float .f64 a1) := fun vv => cell_of_row _ _ 0 _ _ _ ((hF1 vv).heap GB.out)
  have xB1 : ∀ vv, (F vv).cell? ⟨v3.heap.size, 1, none⟩ = some (.float .f64 b1) := fun vv => cell_of_row _ _ 1 _ _ _ ((hF1 vv).heap GB.out)
  have xB2 : ∀ vv, (F vv).cell? ⟨v3.heap.size, 2, none⟩ = some (.float .f64 d1) := fun vv => cell_of_row _ _ 2 _ _ _ ((hF1 vv).heap GB.out)
  have xC0 : ∀ vv, (F vv).cell? ⟨v4.heap.size, 0, none⟩ = some (.float .f64 a2) := fun vv => cell_of_row _ _ 0 _ _ _ ((hF1 vv).heap GC.out)
  have xC1 : ∀ vv, (F vv).cell? ⟨v4.heap.size, 1, none⟩ = some (.float .f64 b2) := fun vv => cell_of_row _ _ 1 _ _ _ ((hF1 vv).heap GC.out)
  have xC2 : ∀ vv, (F vv).cell? ⟨v4.heap.size, 2, none⟩ = some (.float .f64 d2) := fun vv => cell_of_row _ _ 2 _ _ _ ((hF1 vv).heap GC.out)
  have xD0 : ∀ vv, (F vv).cell? ⟨v5.heap.size, 0, none⟩ = some (.float .f64 a3) := fun vv => cell_of_row _ _ 0 _ _ _ ((hF1 vv).heap GD.out)
  have xD1 : ∀ vv, (F vv).cell? ⟨v5.heap.size, 1, none⟩ = some (.float .f64 b3) := fun vv => cell_of_row _ _ 1 _ _ _ ((hF1 vv).heap GD.out)
  have xD2 : ∀ vv, (F vv).cell? ⟨v5.heap.size, 2, none⟩ = some (.float .f64 d3) := fun vv => cell_of_row _ _ 2 _ _ _ ((hF1 vv).heap GD.out)
  have D := HF.out _ (Ab.refl W).drew
  clear hF1 hF2
  refine region_cls F (by kernel_rfl) (by kernel_rfl) D ?_
  repeat (go_big_quiet_step (first
    | (with_reducible rfl)
    | (go_at_call 107; exact calls_cls HF HF1 (MI.out _ _ _ _ _ _ _ (by assumption) (by assumption) (by assumption) (by assumption) (by assumption) (by assumption)))
    | (go_at_call 106; exact calls_cls HF HF1 (CR.out _))
    | (go_at_call 105; exact calls_cls HF HF1 (LN.out _))))
  refine wpQuiet_nil ?_
  intro wz hwz
  obtain ⟨vv, hv⟩ := hwz
  have bz : Below W.heap.size W wz := by rw [hv]; exact HF1.out vv
  clear hv vv
  clear HF HF1 D xA0 xA1 xA2 xB0 xB1 xB2 xC0 xC1 xC2 xD0 xD1 xD2
  clear F UU
  have AZ : Hid (Ab w wz) := AW.out.call bz
  clear bz AW GA GB GC GD
  obtain ⟨r1, n1, k1, q1⟩ := mul_any (P := Tryz.prog) wz L _ 4602678819172646912 _ (IsQ.self lL) (IsQ.self (by decide))
  obtain ⟨r2, n2, k2, q2⟩ := mul_any (P := Tryz.prog) (wz.drewN n1) r1 _ 4742290407621132288 _ q1 (IsQ.self (by decide))
  have RO : Hid (∀ u, Calls Tryz.prog 108 #[.float .f64 r2] u fun e w' => e = .returned (.tuple #[.int .i64 A, .bool ok]) ∧ w' = u) := fun u =>
    Ref2.refRound_at r2 A ok u q2.1 (by rw [(cI_q r2).1, q2.2]; exact HA.out) (by rw [(cI_q r2).2, q2.2]; exact HO.out)
  rw [World.drewN_drewN] at k2
  clear q1 q2 HA HO
  go_wp2_with fail
  refine (RO.out _).mono ?_
  rintro e w5 ⟨rfl, rfl⟩
  go_wp2
  all_goals go_ret
  all_goals exact ⟨congrArg (fun z => Ending.returned (.int .i64 z)) (by omega), Ab.drewN AZ.out _⟩
theorem rarea_ok (n c : Nat) (w : World) (hn : 1 ≤ n ∧ n ≤ 32) (hc : c < 6 * n * n) :
    Calls Tryz.prog 70 #[.int .i64 n, .int .i64 c] w fun e w' => e = .returned (.int .i64 (arI (ArC n c))) ∧ Below w.heap.size w w' := by
  obtain ⟨h1, h2, h3, -⟩ := dec_lt hn.1 hc
  have h := rarea_walk n c (cf n c) (ci n c) (cj n c) _ _ _ _ _ _ _ _ _ _ _ _ w (by omega) (by omega) (px_lt n _) (py_lt n _) (pz_lt n _) (px_lt n _) (py_lt n _) (pz_lt n _) (px_lt n _) (py_lt n _) (pz_lt n _) (px_lt n _) (py_lt n _) (pz_lt n _) (fun u => rplace_okN n c hn hc u)
    (fun u => rcorner_ok n (cf n c) (ci n c) (cj n c) u hn h1 (by omega) (by omega)) (fun u => rcorner_ok n (cf n c) (ci n c + 1) (cj n c) u hn h1 (by omega) (by omega))
    (fun u => rcorner_ok n (cf n c) (ci n c + 1) (cj n c + 1) u hn h1 (by omega) (by omega)) (fun u => rcorner_ok n (cf n c) (ci n c) (cj n c + 1) u hn h1 (by omega) (by omega))
  unfold ArC ar
  exact h
end Go.Proofs.YtbibhgikmnpbfaaGreatDoor

namespace Go.Proofs.YtbibhgikmnpbfaaGreatDoor
open Go.RowKit Cu Tf
attribute [local go_sem] run_store_float
/-- the document's net of side n lies in block rb -/
def RefOf (n rb : Nat) (w : World) : Prop := ∃ ab eb cap, w.heap[rb]? = some (.cells #[.int .i64 n, .slice (some ⟨eb, 0, none⟩) (12 * n * n) cap, .slice (some ⟨ab, 0, none⟩) (24 * n * n) (24 * n * n)] 68) ∧ EG w n eb ∧ w.rowIs ab 3 (24 * n * n) (fun t => .int .i64 (eE n t : Nat))
theorem RefOf.to {n rb : Nat} {w w' : World} (h : RefOf n rb w) (a : Ab w w') : RefOf n rb w' := by
  obtain ⟨ab, eb, cap, h1, h2, h3⟩ := h
  exact ⟨ab, eb, cap, a.heap h1, h2.to a, rowIs.ab h3 a⟩
theorem RE.all {B n rb ab : Nat} {es : Value} {w : World} (hn : 1 ≤ n) (h : RE B n (24 * n * n) (24 * n * n) rb ab es w) : RefOf n rb w := by
  obtain ⟨h1, h2, h3, h4, h5, h6⟩ := h
  have hh := h2
  have hpos : 0 < 12 * n * n := Nat.mul_pos (by omega) (by omega)
  rw [eN_all hn] at hh
  rcases hh.2 with ⟨rfl, h0⟩ | ⟨g, cap, cur, rfl, hb, hg, k1, k2, k3, k4⟩
  · omega
  · refine ⟨ab, g, cap, h1, ⟨lt_of_block hg, fun t ht hl => ?_⟩, h3.congr (fun t ht => by rw [rA_end hn ht])⟩
    have hc : ∀ j < 4, ∀ u, (edV n t)[j]? = some u → w.cell? ⟨g, eN n t * 4 + j, none⟩ = some u := by
      intro j hj u hu
      have := hh.cells (g := g) rfl (eN n t * 4 + j) u (by rw [edL_at ht hl hj]; exact hu)
      have ha : (⟨g, 0, none⟩ : Addr).add (eN n t * 4 + j) = ⟨g, eN n t * 4 + j, none⟩ := by unfold Addr.add; split <;> simp_all
      rwa [ha] at this
    exact ⟨hc 0 (by omega) _ rfl, hc 1 (by omega) _ rfl, hc 2 (by omega) _ rfl, hc 3 (by omega) _ rfl⟩
theorem rnew_no (n : Int) (w : World) (h : ¬ (1 ≤ n ∧ n ≤ 32)) :
    Calls Tryz.prog 8 #[.int .i64 n] w fun e w' => e = .returned (.tuple #[.pointer none, .int .i64 10]) ∧ w' = w := by
  have CE := hid (fun u => rcells_at n u)
  have hz : clN n = 0 := by unfold clN; rw [if_neg h]
  rw [hz] at CE
  clear h hz
  go_enter Tryz.func8, Tryz.ntmps8
  go_wp2_with (go_at_call 33; refine (CE.out _).mono ?_; rintro e w' ⟨rfl, hw⟩; have hw2 := hw.symm; subst hw2)
  go_ret2
  exact ⟨rfl, rfl⟩
theorem rSide_at {n rb : Nat} {w : World} (g : RefOf n rb w) : Calls Tryz.prog 49 #[.pointer (some ⟨rb, 0, none⟩)] w fun e w' => e = .returned (.int .i64 n) ∧ w' = w := by
  obtain ⟨ab, eb, cap, h1, -⟩ := g
  have c0 := cell_of_row _ _ 0 _ _ _ h1
  clear h1
  go_enter Tryz.func49, Tryz.ntmps49
  go_wp2
  go_ret
  exact ⟨rfl, rfl⟩
theorem rCells_at {n rb : Nat} {w : World} (hn : 1 ≤ n ∧ n ≤ 32) (g : RefOf n rb w) : Calls Tryz.prog 48 #[.pointer (some ⟨rb, 0, none⟩)] w fun e w' => e = .returned (.int .i64 (6 * n * n : Nat)) ∧ w' = w := by
  have SI := hid (rSide_at g)
  have CE := hid (fun u => rcells_at n u)
  rw [clN_nat hn] at CE
  generalize 6 * n * n = N at *
  clear g hn
  go_enter Tryz.func48, Tryz.ntmps48
  go_wp2_with (first
    | (go_at_call 49; refine SI.out.mono ?_; rintro e w' ⟨rfl, hw⟩; have hw2 := hw.symm; subst hw2)
    | (go_at_call 33; refine (CE.out _).mono ?_; rintro e w' ⟨rfl, hw⟩; have hw2 := hw.symm; subst hw2))
  go_ret
  exact ⟨rfl, rfl⟩
theorem rEdges_at {n rb : Nat} {w : World} (g : RefOf n rb w) : Calls Tryz.prog 68 #[.pointer (some ⟨rb, 0, none⟩)] w fun e w' => e = .returned (.int .i64 (12 * n * n : Nat)) ∧ w' = w := by
  obtain ⟨ab, eb, cap, h1, -⟩ := g
  have c1 := cell_of_row _ _ 1 _ _ _ h1
  simp at c1
  clear h1
  generalize 12 * n * n = M at *
  go_enter Tryz.func68, Tryz.ntmps68
  go_wp2
  go_ret
  exact ⟨rfl, rfl⟩
end Go.Proofs.YtbibhgikmnpbfaaGreatDoor

namespace Go.Proofs.YtbibhgikmnpbfaaGreatDoor
open Go.RowKit Cu Tf
attribute [local go_sem] run_store_float
theorem RefOf.c0 {n rb : Nat} {w : World} (h : RefOf n rb w) : w.cell? ⟨rb, 0, none⟩ = some (.int .i64 n) := by
  obtain ⟨ab, eb, cap, h1, -⟩ := h
  exact cell_of_row _ _ 0 _ _ _ h1
theorem rArea_at {n rb : Nat} {c V : Int} {w : World} (A1 : ∀ u, Calls Tryz.prog 70 #[.int .i64 n, .int .i64 c] u fun e w' => e = .returned (.int .i64 V) ∧ Below u.heap.size u w') (g : RefOf n rb w) :
    Calls Tryz.prog 39 #[.pointer (some ⟨rb, 0, none⟩), .int .i64 c] w fun e w' => e = .returned (.int .i64 V) ∧ Below w.heap.size w w' := by
  have SI := hid (rSide_at g)
  have AA := hid A1
  clear g A1
  go_enter Tryz.func39, Tryz.ntmps39
  go_wp2_with (first
    | (go_at_call 49; refine SI.out.mono ?_; rintro e w' ⟨rfl, hw⟩; have hw2 := hw.symm; subst hw2)
    | (go_at_call 70; refine (AA.out _).mono ?_; rintro e v1 ⟨rfl, b1⟩))
  go_ret
  exact ⟨rfl, b1⟩
end Go.Proofs.YtbibhgikmnpbfaaGreatDoor

namespace Go.Proofs.YtbibhgikmnpbfaaGreatDoor
open Tf Ieee Cu
def wdF (s : Bool) (r : Nat) : Nat := bif s then 9223372036854775808 + r else r
theorem cw (c : Bool) (r : Nat) (h1 : 1 ≤ r) (h2 : r ≤ 9218868437227405312) : wdF c r = canonB (if c = true then 9223372036854775808 + r else r) := by
  cases c
  · have hm : mg r = r := mg_of_lt (by omega)
    unfold wdF canonB
    rw [cond_false, if_neg Bool.false_ne_true, if_neg (by rw [isN_true, hm]; omega), if_neg (by rw [hm]; omega)]
  · have hm : mg (9223372036854775808 + r) = r := by unfold mg; omega
    unfold wdF canonB
    rw [cond_true, if_pos rfl, if_neg (by rw [isN_true, hm]; omega), if_neg (by rw [hm]; omega)]
end Go.Proofs.YtbibhgikmnpbfaaGreatDoor

namespace Go.Proofs.YtbibhgikmnpbfaaGreatDoor
open Tf Ieee Cu
/-- the area of the cell of face 0 -/
def a0 (n : Nat) (k h : Int) : Nat := ar n (n, k, h) (n, k + 2, h) (n, k + 2, h + 2) (n, k, h + 2)
end Go.Proofs.YtbibhgikmnpbfaaGreatDoor

namespace Go.Proofs.YtbibhgikmnpbfaaGreatDoor.Sh
/-- x * y / z, rounded down, within 63 bits -/
def part (x y z : Int) : Int := if x < 0 ∨ y < 0 ∨ z ≤ 0 then 0 else if 9223372036854775807 < x * y / z then 9223372036854775807 else x * y / z
theorem div_le_self' {x y z : Int} (hx : 0 ≤ x) (hz : 0 < z) (h : y ≤ z) : x * y / z ≤ x := by
  have h1 : x * y ≤ x * z := Int.mul_le_mul_of_nonneg_left h hx
  exact Int.ediv_le_of_le_mul hz h1
/-- where the second is at most the third -/
theorem part_le {x y z : Int} (hx : 0 ≤ x) (hx2 : x ≤ 9223372036854775807) (hy : 0 ≤ y) (hz : 0 < z) (h : y ≤ z) : part x y z = x * y / z ∧ 0 ≤ part x y z ∧ part x y z ≤ x := by
  have l := div_le_self' hx hz h
  have n : ¬ (x < 0 ∨ y < 0 ∨ z ≤ 0) := by omega
  have n2 : ¬ 9223372036854775807 < x * y / z := by omega
  have e : part x y z = x * y / z := by unfold part; rw [if_neg n, if_neg n2]
  exact ⟨e, by rw [e]; exact Int.ediv_nonneg (Int.mul_nonneg hx hy) (by omega), by rw [e]; exact l⟩
/-- a quotient against its parts -/
theorem div_two {a z : Int} (hz : 0 < z) : z * (a / z) ≤ a ∧ a < z * (a / z) + z := by
  have h1 := Int.mul_ediv_add_emod a z
  have h2 := Int.emod_nonneg a (show z ≠ 0 by omega)
  have h3 := Int.emod_lt_of_pos a hz
  constructor <;> omega
/-- all of them together -/
def sumN (f : Nat → Int) : Nat → Int
  | 0 => 0
  | n + 1 => sumN f n + f n
theorem sumN_congr {f g : Nat → Int} : ∀ {n : Nat}, (∀ i, i < n → f i = g i) → sumN f n = sumN g n
  | 0, _ => rfl
  | n + 1, h => by
    show sumN f n + f n = sumN g n + g n
    rw [sumN_congr (n := n) (fun i hi => h i (by omega)), h n (by omega)]
theorem sumN_nn {f : Nat → Int} : ∀ {n : Nat}, (∀ i, i < n → 0 ≤ f i) → 0 ≤ sumN f n
  | 0, _ => by show (0 : Int) ≤ 0; omega
  | n + 1, h => by
    show 0 ≤ sumN f n + f n
    have a := sumN_nn (n := n) (fun i hi => h i (by omega))
    have b := h n (by omega)
    omega
theorem sumN_mono {f : Nat → Int} {n : Nat} (h : ∀ i, i < n → 0 ≤ f i) : ∀ {m : Nat}, m ≤ n → sumN f m ≤ sumN f n := by
  intro m hm
  induction n with
  | zero => obtain rfl : m = 0 := by omega
            omega
  | succ n ih =>
    by_cases e : m = n + 1
    · subst e; omega
    · have a := ih (fun i hi => h i (by omega)) (by omega)
      have b := h n (by omega)
      show sumN f m ≤ sumN f n + f n
      omega
end Go.Proofs.YtbibhgikmnpbfaaGreatDoor.Sh

namespace Go.Proofs.YtbibhgikmnpbfaaGreatDoor
namespace Rv
open Sh
/-- a cell lies below another one, or beside it and ahead by number -/
def lt2 (K : Nat → Nat) (a b : Nat) : Bool := decide (K a < K b) || (decide (K a = K b) && decide (a < b))
theorem lt2_iff {K : Nat → Nat} {a b : Nat} : lt2 K a b = true ↔ K a < K b ∨ (K a = K b ∧ a < b) := by
  unfold lt2
  simp
/-- the least of nb 0 .. nb k -/
def bst (K : Nat → Nat) (nb : Nat → Nat) : Nat → Nat
  | 0 => nb 0
  | k + 1 => if lt2 K (nb (k + 1)) (bst K nb k) = true then nb (k + 1) else bst K nb k
theorem bst_in (K nb : Nat → Nat) : ∀ k, ∃ s, s ≤ k ∧ bst K nb k = nb s
  | 0 => ⟨0, Nat.le_refl _, rfl⟩
  | k + 1 => by
    obtain ⟨s, h1, h2⟩ := bst_in K nb k
    by_cases c : lt2 K (nb (k + 1)) (bst K nb k) = true
    · exact ⟨k + 1, Nat.le_refl _, by unfold bst; rw [if_pos c]⟩
    · exact ⟨s, by omega, by unfold bst; rw [if_neg c]; exact h2⟩
theorem bst_least (K nb : Nat → Nat) : ∀ k s, s ≤ k → ¬ (K (nb s) < K (bst K nb k) ∨ (K (nb s) = K (bst K nb k) ∧ nb s < bst K nb k))
  | 0, s, h => by
    obtain rfl : s = 0 := by omega
    show ¬ (K (nb 0) < K (nb 0) ∨ (K (nb 0) = K (nb 0) ∧ nb 0 < nb 0))
    omega
  | k + 1, s, h => by
    have ih := bst_least K nb k
    by_cases c : lt2 K (nb (k + 1)) (bst K nb k) = true
    · have e : bst K nb (k + 1) = nb (k + 1) := by show (if _ then _ else _) = _; rw [if_pos c]
      rw [e]
      have c' := lt2_iff.1 c
      by_cases q : s = k + 1
      · subst q; omega
      · have := ih s (by omega)
        omega
    · have e : bst K nb (k + 1) = bst K nb k := by show (if _ then _ else _) = _; rw [if_neg c]
      rw [e]
      by_cases q : s = k + 1
      · subst q
        exact fun h => c (lt2_iff.2 h)
      · exact ih s (by omega)
/-- where a cell's water runs -/
def dnI (K : Nat → Nat) (nb : Nat → Nat) (c : Nat) : Int := if K (bst K nb 3) < K c then ((bst K nb 3 : Nat) : Int) else -1
theorem dnI_no {K nb : Nat → Nat} {c : Nat} (h : dnI K nb c < 0) : dnI K nb c = -1 ∧ ∀ s, s < 4 → ¬ K (nb s) < K c := by
  unfold dnI at h ⊢
  by_cases q : K (bst K nb 3) < K c
  · rw [if_pos q] at h; omega
  · rw [if_neg q]
    refine ⟨rfl, fun s hs => ?_⟩
    have := bst_least K nb 3 s (by omega)
    omega
theorem dnI_yes {K nb : Nat → Nat} {c : Nat} (h : ¬ dnI K nb c < 0) : ∃ d : Nat, dnI K nb c = (d : Nat) ∧ K d < K c ∧ (∃ s, s < 4 ∧ nb s = d) ∧ ∀ s, s < 4 → ¬ (K (nb s) < K d ∨ (K (nb s) = K d ∧ nb s < d)) := by
  unfold dnI at h ⊢
  by_cases q : K (bst K nb 3) < K c
  · rw [if_pos q]
    obtain ⟨s, h1, h2⟩ := bst_in K nb 3
    exact ⟨_, rfl, q, ⟨s, by omega, h2.symm⟩, fun s hs => bst_least K nb 3 s (by omega)⟩
  · rw [if_neg q] at h; omega
/-! ### the order -/
/-- a cell comes ahead of another one -/
def bf (K : Nat → Nat) (a b : Nat) : Prop := K b < K a ∨ (K a = K b ∧ a < b)
/-- a list is the order of n cells -/
def IsOrd (K : Nat → Nat) (n : Nat) (l : List Nat) : Prop := l.Pairwise (bf K) ∧ l.Perm (List.range n)
def leB (K : Nat → Nat) (a b : Nat) : Bool := decide (K b < K a) || (decide (K a = K b) && decide (a ≤ b))
/-- the order of n cells -/
def ordL (K : Nat → Nat) (n : Nat) : List Nat := (List.range n).mergeSort (leB K)
theorem leB_iff {K : Nat → Nat} {a b : Nat} : leB K a b = true ↔ K b < K a ∨ (K a = K b ∧ a ≤ b) := by
  unfold leB
  simp
theorem ordL_ord (K : Nat → Nat) (n : Nat) : IsOrd K n (ordL K n) := by
  have p : (ordL K n).Perm (List.range n) := List.mergeSort_perm _ _
  refine ⟨?_, p⟩
  have s : (ordL K n).Pairwise (fun a b => leB K a b = true) := List.pairwise_mergeSort (fun a b c h1 h2 => by
    rw [leB_iff] at *
    omega) (fun a b => by
    rw [Bool.or_eq_true, leB_iff, leB_iff]
    omega) _
  have nd : (ordL K n).Nodup := p.nodup_iff.2 List.nodup_range
  have nd2 : (ordL K n).Pairwise (fun a b => a ≠ b) := nd
  refine (s.and nd2).imp ?_
  rintro a b ⟨h1, h2⟩
  rw [leB_iff] at h1
  unfold bf
  omega
theorem bf_asym {K : Nat → Nat} {a b : Nat} (h1 : bf K a b) (h2 : bf K b a) : False := by
  unfold bf at *
  omega
theorem ord_eq {K : Nat → Nat} : ∀ {l m : List Nat}, l.Pairwise (bf K) → m.Pairwise (bf K) → l.Perm m → l = m
  | [], m, _, _, p => p.nil_eq
  | a :: l, m, hl, hm, p => by
    cases m with
    | nil => exact absurd p.symm.nil_eq (by simp)
    | cons b m =>
      have e : a = b := by
        by_cases q : a = b
        · exact q
        · have h1 : a ∈ b :: m := p.subset (List.mem_cons_self ..)
          have h2 : b ∈ a :: l := p.symm.subset (List.mem_cons_self ..)
          have h3 : a ∈ m := by
            rcases List.mem_cons.1 h1 with h | h
            · exact absurd h q
            · exact h
          have h4 : b ∈ l := by
            rcases List.mem_cons.1 h2 with h | h
            · exact absurd h.symm q
            · exact h
          exact absurd ((List.pairwise_cons.1 hl).1 b h4) (fun h => bf_asym h ((List.pairwise_cons.1 hm).1 a h3))
      subst e
      rw [ord_eq (List.pairwise_cons.1 hl).2 (List.pairwise_cons.1 hm).2 ((List.perm_cons a).1 p)]
/-- there is one order alone -/
theorem ord_one {K : Nat → Nat} {n : Nat} {l : List Nat} (h : IsOrd K n l) : l = ordL K n := ord_eq h.1 (ordL_ord K n).1 (h.2.trans (ordL_ord K n).2.symm)
theorem ordL_len (K : Nat → Nat) (n : Nat) : (ordL K n).length = n := by rw [(ordL_ord K n).2.length_eq, List.length_range]
theorem ordL_mem {K : Nat → Nat} {n c : Nat} : c ∈ ordL K n ↔ c < n := by rw [(ordL_ord K n).2.mem_iff, List.mem_range]
/-! ### a step of rivers -/
/-- what a cell of so much water gives -/
def gvW (x : Int) : Int := x / 4
/-- one cell's turn -/
def rv1 (dn : Nat → Int) (sh : Int → Nat → Bool) (X : (Nat → Int) × (Nat → Int)) (c : Nat) : (Nat → Int) × (Nat → Int) :=
  if dn c < 0 ∨ X.1 c ≤ 0 ∨ sh (X.1 c) c = false then X else
    (fun i => if i = (dn c).toNat then X.1 i + gvW (X.1 c) else if i = c then X.1 c - gvW (X.1 c) else X.1 i,
     fun i => if i = (dn c).toNat then X.2 i + Sh.part (X.2 c) (gvW (X.1 c)) (X.1 c) else if i = c then X.2 c - Sh.part (X.2 c) (gvW (X.1 c)) (X.1 c) else X.2 i)
/-- a row of cells, one behind the other -/
def rvL (dn : Nat → Int) (sh : Int → Nat → Bool) (X : (Nat → Int) × (Nat → Int)) (l : List Nat) : (Nat → Int) × (Nat → Int) := l.foldl (rv1 dn sh) X
/-- Downs are cells, and others -/
def okD (n : Nat) (dn : Nat → Int) : Prop := ∀ c, c < n → ¬ dn c < 0 → (dn c).toNat < n ∧ (dn c).toNat ≠ c
/-- waters or tracers that can be -/
def okV (n : Nat) (f : Nat → Int) : Prop := (∀ c, c < n → 0 ≤ f c) ∧ sumN f n ≤ 4503599627370496
theorem sumN_one (f : Nat → Int) (c : Nat) (d : Int) : ∀ n, sumN (fun i => if i = c then f i + d else f i) n = sumN f n + if c < n then d else 0
  | 0 => by
    show (0 : Int) = 0 + if c < 0 then d else 0
    rw [if_neg (by omega)]
    rfl
  | n + 1 => by
    show sumN (fun i => if i = c then f i + d else f i) n + (if n = c then f n + d else f n) = sumN f n + f n + if c < n + 1 then d else 0
    rw [sumN_one f c d n]
    by_cases e : n = c
    · subst e
      rw [if_pos rfl, if_neg (by omega), if_pos (by omega)]
      omega
    · rw [if_neg e]
      by_cases l : c < n
      · rw [if_pos l, if_pos (by omega)]
        omega
      · rw [if_neg l, if_neg (by omega)]
        omega
/-- from one cell to another one -/
theorem sumN_move {f : Nat → Int} {n c d : Nat} {m : Int} (hc : c < n) (hd : d < n) (h : d ≠ c) : sumN (fun i => if i = d then f i + m else if i = c then f c - m else f i) n = sumN f n := by
  have e : sumN (fun i => if i = d then f i + m else if i = c then f c - m else f i) n = sumN (fun i => if i = d then (fun j => if j = c then f j + -m else f j) i + m else (fun j => if j = c then f j + -m else f j) i) n := by
    refine sumN_congr (fun i _ => ?_)
    dsimp only
    by_cases e1 : i = d
    · subst e1
      rw [if_pos rfl, if_pos rfl, if_neg h]
    · rw [if_neg e1, if_neg e1]
      by_cases e2 : i = c
      · subst e2
        rw [if_pos rfl, if_pos rfl]
        omega
      · rw [if_neg e2, if_neg e2]
  rw [e, sumN_one, sumN_one, if_pos hc, if_pos hd]
  omega
theorem elem_le {f : Nat → Int} {n c : Nat} (h : ∀ i, i < n → 0 ≤ f i) (hc : c < n) : f c ≤ sumN f n := by
  have a := sumN_mono h (m := c + 1) (by omega)
  have b := sumN_nn (f := f) (n := c) (fun i hi => h i (by omega))
  have e : sumN f (c + 1) = sumN f c + f c := rfl
  omega
theorem okV.b {n : Nat} {f : Nat → Int} (h : okV n f) {c : Nat} (hc : c < n) : 0 ≤ f c ∧ f c ≤ 4503599627370496 := ⟨h.1 c hc, by have := elem_le h.1 hc; have := h.2; omega⟩
section
variable {n : Nat} {dn : Nat → Int} {sh : Int → Nat → Bool} {X : (Nat → Int) × (Nat → Int)}
/-- what goes is there -/
theorem gv_in {x t : Int} (hx : 0 < x) (ht : 0 ≤ t ∧ t ≤ 4503599627370496) : (0 ≤ gvW x ∧ gvW x ≤ x) ∧ 0 ≤ Sh.part t (gvW x) x ∧ Sh.part t (gvW x) x ≤ t := by
  have g : 0 ≤ gvW x ∧ gvW x ≤ x := by unfold gvW; omega
  exact ⟨g, (part_le ht.1 (by omega) g.1 hx g.2).2⟩
theorem rv1_ok (hd : okD n dn) (hX : okV n X.1 ∧ okV n X.2) {c : Nat} (hc : c < n) : okV n (rv1 dn sh X c).1 ∧ okV n (rv1 dn sh X c).2 := by
  unfold rv1
  by_cases q : dn c < 0 ∨ X.1 c ≤ 0 ∨ sh (X.1 c) c = false
  · rw [if_pos q]; exact hX
  · rw [if_neg q]
    obtain ⟨d1, d2⟩ := hd c hc (by omega)
    have g := gv_in (x := X.1 c) (t := X.2 c) (by omega) (hX.2.b hc)
    have w0 := hX.1.b hc
    refine ⟨⟨fun i hi => ?_, ?_⟩, ⟨fun i hi => ?_, ?_⟩⟩
    · dsimp only
      have := hX.1.1 i hi
      split
      · omega
      · split <;> omega
    · dsimp only
      rw [sumN_move hc d1 d2]
      exact hX.1.2
    · dsimp only
      have := hX.2.1 i hi
      split
      · omega
      · split <;> omega
    · dsimp only
      rw [sumN_move hc d1 d2]
      exact hX.2.2
theorem rv1_sum (hd : okD n dn) {c : Nat} (hc : c < n) : sumN (rv1 dn sh X c).1 n = sumN X.1 n ∧ sumN (rv1 dn sh X c).2 n = sumN X.2 n := by
  unfold rv1
  by_cases q : dn c < 0 ∨ X.1 c ≤ 0 ∨ sh (X.1 c) c = false
  · rw [if_pos q]; exact ⟨rfl, rfl⟩
  · rw [if_neg q]
    obtain ⟨d1, d2⟩ := hd c hc (by omega)
    exact ⟨sumN_move hc d1 d2, sumN_move hc d1 d2⟩
theorem rvL_ok (hd : okD n dn) : ∀ {l : List Nat} {X : (Nat → Int) × (Nat → Int)}, (∀ c, c ∈ l → c < n) → (okV n X.1 ∧ okV n X.2) → (okV n (rvL dn sh X l).1 ∧ okV n (rvL dn sh X l).2) ∧ sumN (rvL dn sh X l).1 n = sumN X.1 n ∧ sumN (rvL dn sh X l).2 n = sumN X.2 n
  | [], X, _, hX => ⟨hX, rfl, rfl⟩
  | c :: l, X, hl, hX => by
    have hc := hl c (List.mem_cons_self ..)
    have a := rvL_ok hd (l := l) (X := rv1 dn sh X c) (fun c h => hl c (List.mem_cons_of_mem _ h)) (rv1_ok hd hX hc)
    have b := rv1_sum (sh := sh) (X := X) hd hc
    exact ⟨a.1, a.2.1.trans b.1, a.2.2.trans b.2⟩
end
end Rv
end Go.Proofs.YtbibhgikmnpbfaaGreatDoor

namespace Go.Proofs.YtbibhgikmnpbfaaGreatDoor
open Go.ChangeShapes Go.WideShapes Go.ChangeAt Go.WideMaps Go.WideElems Go.RowKit Go.Deep
/-- a list of whole numbers lies there -/
def IsIn (w : World) (a0 : Option Addr) (len : Nat) (xs : Nat → Int) : Prop := ∀ k, k < len → (-9223372036854775808 ≤ xs k ∧ xs k ≤ 9223372036854775807) ∧ ∃ b o, a0 = some ⟨b, o, none⟩ ∧ b < w.heap.size ∧ w.cell? ⟨b, o + k, none⟩ = some (.int .i64 (xs k))
theorem IsIn.below {w w' : World} {a0 : Option Addr} {len : Nat} {xs : Nat → Int} (h : IsIn w a0 len xs) (hb : Below w.heap.size w w') : IsIn w' a0 len xs := by
  intro k hk
  obtain ⟨h1, b, o, h2, h3, h4⟩ := h k hk
  exact ⟨h1, b, o, h2, Nat.lt_of_lt_of_le h3 hb.size, by rw [hb.cell (p := ⟨b, o + k, none⟩) h3]; exact h4⟩
theorem trod_flt0 {H : Type} {enc : TypeId × Value → H} {P : Program} {w : World} {base : Nat} {spare : Nat → Bool} {held : Bool} {t : TypeId} {fuel : Nat} {v : Value} {x : DataW H × List MemPlace} (ht : P.underlying t = some (.float .f64)) (h : DataW.trod enc P w base spare held fuel t [v] = some x) :
    ∃ b, v = .float .f64 b ∧ (Lit.float .f64 b).wf = true := by
  cases fuel with
  | zero => simp [DataW.trod] at h
  | succ n =>
    unfold DataW.trod at h
    rw [ht] at h
    split at h <;> simp_all
theorem trod_flt12 {H : Type} {enc : TypeId × Value → H} {P : Program} {w : World} {base : Nat} {spare : Nat → Bool} {held : Bool} {t : TypeId} {fuel : Nat} {v : Value} {x : DataW H × List MemPlace} (ht : P.underlying t = some (.float .f64)) (h : DataW.trod enc P w base spare held fuel t [v] = some x) :
    ∃ b, v = .float .f64 b ∧ b < 18446744073709551616 := by
  obtain ⟨k, e, wf⟩ := trod_flt0 ht h
  exact ⟨k, e, by simpa [Lit.wf] using wf⟩
theorem trod_int12 {H : Type} {enc : TypeId × Value → H} {P : Program} {w : World} {base : Nat} {spare : Nat → Bool} {held : Bool} {t : TypeId} {fuel : Nat} {v : Value} {x : DataW H × List MemPlace} (ht : P.underlying t = some (.int .i64)) (h : DataW.trod enc P w base spare held fuel t [v] = some x) :
    ∃ b, v = .int .i64 b ∧ (-9223372036854775808 ≤ b ∧ b ≤ 9223372036854775807) := by
  obtain ⟨k, e, _, wf⟩ := DataW.trod_int ht h
  simp at e
  simp only [Lit.wf, Bool.and_eq_true, decide_eq_true_eq] at wf
  have q1 : IntKind.i64.min = -9223372036854775808 := by decide
  have q2 : IntKind.i64.max = 9223372036854775807 := by decide
  rw [q1, q2] at wf
  exact ⟨k, e, wf⟩
theorem add_off12 (b off j : Nat) : (⟨b, off, none⟩ : Addr).add j = ⟨b, off + j, none⟩ := by
  by_cases c : j = 0
  · subst c; simp [Addr.add]
  · simp [Addr.add, c]
theorem cell_block12 {w : World} {a : Addr} {v : Value} (h : w.cell? a = some v) : a.block < w.heap.size := by
  by_cases c : a.block < w.heap.size
  · exact c
  · exfalso
    have : w.heap[a.block]? = none := by simp; omega
    simp [World.cell?, this] at h
theorem pick_fn {α : Type} {n : Nat} {R : Nat → α → Prop} (d : α) (h : ∀ i, i < n → ∃ x, R i x) : ∃ f : Nat → α, ∀ i, i < n → R i (f i) := by
  have : ∀ i, ∃ x, i < n → R i x := fun i => by
    by_cases c : i < n
    · obtain ⟨x, h1⟩ := h i c
      exact ⟨x, fun _ => h1⟩
    · exact ⟨d, fun h => absurd h c⟩
  exact ⟨fun i => (this i).choose, fun i hi => (this i).choose_spec hi⟩
theorem fl_open12 {H : Type} {enc : TypeId × Value → H} {W : World} {cs : List Value} {fuel : Nat} {x : DataW H × List MemPlace}
    (hf : DataW.trod enc Tryz.prog W 0 (fun _ => true) true fuel 22 cs = some x) : ∃ a0 len cap xs, cs = [.slice a0 len cap] ∧ IsFl W a0 len xs ∧ len ≤ cap ∧ cap ≤ maxLen := by
  rcases open_slice1 Tryz.underlying22 (by kernel_rfl) hf with ⟨hcs, _⟩ | ⟨a, l, c, m, n, V, D, Pl, hcs, _, hl, hm, hmm, _, hx⟩
  · exact ⟨none, 0, 0, fun _ => 0, hcs, fun k hk => by omega, Nat.le_refl _, Nat.zero_le _⟩
  · simp only [if_true] at hmm
    have each : ∀ i, i < l → ∃ x : Nat, W.cell? (a.add i) = some (.float .f64 x) ∧ x < 18446744073709551616 := by
      intro i hi
      obtain ⟨h1, h2⟩ := hx i (by omega)
      obtain ⟨x, e, wx⟩ := trod_flt12 Tryz.underlying47 h2
      rw [e] at h1
      exact ⟨x, h1, wx⟩
    obtain ⟨f, hf⟩ := pick_fn 0 each
    refine ⟨some a, l, c, f, hcs, fun k hk => ⟨(hf k hk).2, ?_⟩, hl, hm⟩
    have h0 := (hf k hk).1
    have z := (hf 0 (by omega)).1
    obtain ⟨b, off, spot⟩ := a
    have hspot : spot = none := by simpa [Addr.add] using World.cell?_spot z
    subst hspot
    rw [add_off12] at h0
    exact ⟨b, off, rfl, cell_block12 h0, h0⟩
theorem in_open12 {H : Type} {enc : TypeId × Value → H} {W : World} {cs : List Value} {fuel : Nat} {x : DataW H × List MemPlace}
    (hf : DataW.trod enc Tryz.prog W 0 (fun _ => true) true fuel 23 cs = some x) : ∃ a0 len cap xs, cs = [.slice a0 len cap] ∧ IsIn W a0 len xs ∧ len ≤ cap ∧ cap ≤ maxLen := by
  rcases open_slice1 Tryz.underlying23 (by kernel_rfl) hf with ⟨hcs, _⟩ | ⟨a, l, c, m, n, V, D, Pl, hcs, _, hl, hm, hmm, _, hx⟩
  · exact ⟨none, 0, 0, fun _ => 0, hcs, fun k hk => by omega, Nat.le_refl _, Nat.zero_le _⟩
  · simp only [if_true] at hmm
    have each : ∀ i, i < l → ∃ x : Int, W.cell? (a.add i) = some (.int .i64 x) ∧ (-9223372036854775808 ≤ x ∧ x ≤ 9223372036854775807) := by
      intro i hi
      obtain ⟨h1, h2⟩ := hx i (by omega)
      obtain ⟨x, e, wx⟩ := trod_int12 Tryz.underlying2 h2
      rw [e] at h1
      exact ⟨x, h1, wx⟩
    obtain ⟨f, hf⟩ := pick_fn 0 each
    refine ⟨some a, l, c, f, hcs, fun k hk => ⟨(hf k hk).2, ?_⟩, hl, hm⟩
    have h0 := (hf k hk).1
    have z := (hf 0 (by omega)).1
    obtain ⟨b, off, spot⟩ := a
    have hspot : spot = none := by simpa [Addr.add] using World.cell?_spot z
    subst hspot
    rw [add_off12] at h0
    exact ⟨b, off, rfl, cell_block12 h0, h0⟩
/-- a sea's lists, as a walk is told of them -/
structure SeaAt (w : World) (pb : Option Addr) (lb cb : Nat) (B : Nat → Nat) (pw : Option Addr) (lw cw : Nat) (Wt : Nat → Int) (pt : Option Addr) (lt ct : Nat) (Tr : Nat → Int) (ps : Option Addr) (ls cs : Nat) (Sp : Nat → Nat) : Prop where
  bed : IsFl w pb lb B
  water : IsIn w pw lw Wt
  tracer : IsIn w pt lt Tr
  speed : IsFl w ps ls Sp
  lens : (lb ≤ cb ∧ cb ≤ maxLen) ∧ (lw ≤ cw ∧ cw ≤ maxLen) ∧ (lt ≤ ct ∧ ct ≤ maxLen) ∧ (ls ≤ cs ∧ cs ≤ maxLen)
theorem SeaAt.to {w w' : World} {pb : Option Addr} {lb cb : Nat} {B : Nat → Nat} {pw : Option Addr} {lw cw : Nat} {Wt : Nat → Int} {pt : Option Addr} {lt ct : Nat} {Tr : Nat → Int} {ps : Option Addr} {ls cs : Nat} {Sp : Nat → Nat} (h : SeaAt w pb lb cb B pw lw cw Wt pt lt ct Tr ps ls cs Sp) (a : Ab w w') : SeaAt w' pb lb cb B pw lw cw Wt pt lt ct Tr ps ls cs Sp :=
  ⟨h.bed.below a, h.water.below a, h.tracer.below a, h.speed.below a, h.lens⟩
set_option maxRecDepth 100000 in
theorem sea_cells {H : Type} {enc : TypeId × Value → H} {W : World} {n : Nat} {v0 v1 v2 v3 v4 v5 : Value} {x : DataW H × List MemPlace} (h : DataW.trod enc Tryz.prog W 0 (fun _ => true) true n 25 [v0, v1, v2, v3, v4, v5] = some x) :
    ∃ pb lb cb B pw lw cw Wt pt lt ct Tr ps ls cs Sp sky st, (v0 = .slice pb lb cb ∧ v1 = .slice pw lw cw ∧ v2 = .slice pt lt ct ∧ v3 = .slice ps ls cs ∧ v4 = .int .i64 sky ∧ v5 = .int .i64 st) ∧ SeaAt W pb lb cb B pw lw cw Wt pt lt ct Tr ps ls cs Sp := by
  have k0 : Tryz.prog.cellsOf 22 = 1 := by kernel_rfl
  have k1 : Tryz.prog.cellsOf 23 = 1 := by kernel_rfl
  have k2 : Tryz.prog.cellsOf 2 = 1 := by kernel_rfl
  have k3 : Tryz.prog.cellsOf 3 = 1 := by kernel_rfl
  obtain ⟨xs, m, _, hx, hlen, hn, hel⟩ := DataW.trod_struct Tryz.underlying25 h
  match xs, hn with
  | [x0, x1, x2, x3, x4, x5], _ =>
    have h0 := hel 0 _ rfl
    have h1 := hel 1 _ rfl
    have h2 := hel 2 _ rfl
    have h3 := hel 3 _ rfl
    have h4 := hel 4 _ rfl
    have h5 := hel 5 _ rfl
    simp [k0, k1, k2, k3] at h0 h1 h2 h3 h4 h5
    obtain ⟨pb, lb, cb, B, e0, i0, j0⟩ := fl_open12 h0
    obtain ⟨pw, lw, cw, Wt, e1, i1, j1⟩ := in_open12 h1
    obtain ⟨pt, lt, ct, Tr, e2, i2, j2⟩ := in_open12 h2
    obtain ⟨ps, ls, cs, Sp, e3, i3, j3⟩ := fl_open12 h3
    obtain ⟨sky, e4, _⟩ := trod_int12 Tryz.underlying2 h4
    obtain ⟨st, e5, _⟩ := trod_int12 Tryz.underlying3 h5
    simp at e0 e1 e2 e3
    exact ⟨pb, lb, cb, B, pw, lw, cw, Wt, pt, lt, ct, Tr, ps, ls, cs, Sp, sky, st, ⟨e0, e1, e2, e3, e4, e5⟩, ⟨i0, i1, i2, i3, j0, j1, j2, j3⟩⟩
end Go.Proofs.YtbibhgikmnpbfaaGreatDoor
