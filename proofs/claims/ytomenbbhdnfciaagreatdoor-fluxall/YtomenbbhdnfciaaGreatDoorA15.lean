/-
  Some of the texts of this proof, one behind the other.
-/
import Derived.Test.YtomenbbhdnfciaaGreatDoorA14
namespace Go.Proofs.YtomenbbhdnfciaaGreatDoor.Ref2
open Go.RowKit Tf
attribute [local go_sem] run_bits run_from raw_feq raw_fne raw_flt raw_fgt run_neg

set_option maxHeartbeats 1000000 in
theorem small_0 (e p least : Int) (I : Nat) (w : World) :
    Calls Tryz.prog 131 #[.int .u64 0, .int .i64 e, .int .i64 p, .int .i64 least, .int .u64 (I : Nat)] w fun e w' => e = .returned (.int .u64 0) ∧ w' = w := by
  go_enter Tryz.func131, Tryz.ntmps131
  go_wp2
  go_ret
  exact ⟨rfl, rfl⟩
theorem rung_none (p d : Nat) : rung p d 0 = 0 := by unfold rung rne; simp
theorem rne_up (m t d : Nat) : rne (m * 2 ^ (d + t)) (2 ^ d) = m * 2 ^ t := by
  rw [Nat.add_comm, Nat.pow_add, ← Nat.mul_assoc, rne_mul _ _ (pow_pos d)]
theorem rne_dn (m j E : Nat) : rne (m * 2 ^ E) (2 ^ (j + E)) = rne m (2 ^ j) := by
  rw [Nat.pow_add, rne_scale _ _ _ (pow_pos E)]
theorem rne_top (m j p : Nat) (h : m < 2 ^ (p + 1 + j)) : rne m (2 ^ j) ≤ 2 ^ (p + 1) := by
  have h1 := rne_mono (2 ^ j) (show m ≤ 2 ^ (p + 1) * 2 ^ j by rw [← Nat.pow_add]; omega)
  rwa [rne_mul _ _ (pow_pos j)] at h1

theorem small_at (m p I : Nat) (e least : Int) (r : Nat) (w : World) (hm : m ≤ 9223372036854775808) (hm2 : m < 9223372036854775808 ∨ least ≤ e) (hp : p ≤ 52) (e0 : -1100 ≤ e) (e1 : e ≤ 1100) (l0 : -1100 ≤ least) (l1 : least ≤ 0)
    (HB : ∀ u : Nat, (u : Int) ≤ 64 + e - least → u * 2 ^ p < 9223372036854775808) (hr : min (rung p (least - e).toNat (m * 2 ^ (e - least).toNat)) I = r) :
    Calls Tryz.prog 131 #[.int .u64 (m : Nat), .int .i64 e, .int .i64 (p : Nat), .int .i64 least, .int .u64 (I : Nat)] w fun e w' => e = .returned (.int .u64 (r : Nat)) ∧ w' = w := by
  by_cases z : m = 0
  · subst z
    rw [Nat.zero_mul, rung_none, Nat.zero_min] at hr
    subst hr
    exact small_0 e p least I w
  · have zb : ((m : Int) == 0) = false := by simp; omega
    obtain ⟨g, hg⟩ : ∃ g, m.log2 = g := ⟨_, rfl⟩
    have hb : bl m = g + 1 := by unfold bl; rw [if_neg z, hg]
    have g63 : g ≤ 63 := by
      have := log2_small (k := 63) (show m < 2 ^ (63 + 1) by omega)
      omega
    have hlo : 2 ^ g ≤ m := by rw [← hg]; exact Nat.log2_self_le z
    have hhi : m < 2 ^ (g + 1) := by rw [← hg]; exact Nat.lt_log2_self
    obtain ⟨E, hE⟩ : ∃ E, (e - least).toNat = E := ⟨_, rfl⟩
    obtain ⟨Dd, hD⟩ : ∃ Dd, (least - e).toNat = Dd := ⟨_, rfl⟩
    have hlogN : (m * 2 ^ E).log2 = g + E := by rw [log2_mul_pow m E z, hg]
    rw [hE, hD] at hr
    have hrung : rung p Dd (m * 2 ^ E) = (g + E - (p + Dd)) * 2 ^ p + rne (m * 2 ^ E) (2 ^ (g + E - (p + Dd) + Dd)) := by unfold rung; rw [hlogN]
    rw [hrung] at hr
    have hp53 : 2 ^ (p + 1) ≤ 2 ^ 53 := Nat.pow_le_pow_right (by omega) (by omega)
    have hun : ((g + 1 : Nat) : Int) + e - ((p : Int) + 1) = (g : Int) + e - p := by omega
    have wid : ∀ a : Nat, a < 18446744073709551616 → IntKind.u64.wrap (a : Int) = (a : Int) := fun a h => by rw [wrap_id] <;> omega
    -- what is kept, in each of the three ways; 'u': the band; 't': how far up
    have kup : ∀ u t : Nat, g + E - (p + Dd) = u → E = u + Dd + t → g + t ≤ p → rne (m * 2 ^ E) (2 ^ (u + Dd)) = m * 2 ^ t ∧ m * 2 ^ t ≤ 2 ^ (p + 1) := by
      intro u t _ h2 h3
      refine ⟨by rw [h2]; exact rne_up m t (u + Dd), ?_⟩
      have h4 : m * 2 ^ t ≤ 2 ^ (g + 1) * 2 ^ t := Nat.mul_le_mul_right _ (by omega)
      rw [← Nat.pow_add] at h4
      exact Nat.le_trans h4 (Nat.pow_le_pow_right (by omega) (by omega))
    have kdn : ∀ u j : Nat, u + Dd = j + E → g ≤ p + j → rne (m * 2 ^ E) (2 ^ (u + Dd)) = rne m (2 ^ j) ∧ rne m (2 ^ j) ≤ 2 ^ (p + 1) := by
      intro u j h2 h3
      refine ⟨by rw [h2]; exact rne_dn m j E, rne_top m j p ?_⟩
      exact Nat.lt_of_lt_of_le hhi (Nat.pow_le_pow_right (by omega) (by omega))
    have fin : ∀ b : Nat, min b I = r → (I < b → r = I) ∧ (¬ I < b → r = b) := by intro b h; omega
    by_cases c : (g : Int) + e - p < least
    · have u0 : g + E - (p + Dd) = 0 := by omega
      rw [u0, Nat.zero_mul, Nat.zero_add, Nat.zero_add] at hr
      by_cases d : least < e
      · obtain ⟨k1, k2⟩ := kup 0 E u0 (by omega) (by omega)
        rw [Nat.zero_add] at k1
        rw [k1] at hr
        have hw : IntKind.u64.wrap ((m : Int) * 2 ^ (e - least).toNat) = ((m * 2 ^ E : Nat) : Int) := by rw [hE]; exact wrap_pow _ _ _ rfl (by omega)
        have hw2 := wid (m * 2 ^ E) (by omega)
        generalize m * 2 ^ E = k at *
        by_cases f : I < k
        · rw [(fin k hr).1 f]
          exact smlogtg m p I (g + 1) e least _ w zb (show _ < _ by omega) hb (by omega) (by omega) (by omega) (by omega) (by omega) (by omega) hun c d (by omega) k hw hw2 f
        · rw [(fin k hr).2 f]
          exact smlogts m p I (g + 1) e least _ w zb (show _ < _ by omega) hb (by omega) (by omega) (by omega) (by omega) (by omega) (by omega) hun c d (by omega) k hw hw2 f
      · by_cases d2 : e < least
        · obtain ⟨k1, k2⟩ := kdn 0 Dd (by omega) (by omega)
          rw [Nat.zero_add] at k1
          rw [k1] at hr
          obtain ⟨k, hk⟩ : ∃ k, rne m (2 ^ Dd) = k := ⟨_, rfl⟩
          rw [hk] at hr k2
          have hw2 := wid k (by omega)
          have ok : okm m Dd := okm_of _ _ (by omega)
          by_cases f : I < k
          · rw [(fin k hr).1 f]
            exact smloltg m p I (g + 1) e least _ w zb (show _ < _ by omega) hb (by omega) (by omega) (by omega) (by omega) (by omega) (by omega) hun c d2 Dd (by omega) (by omega) ok k hk hw2 f
          · rw [(fin k hr).2 f]
            exact smlolts m p I (g + 1) e least _ w zb (show _ < _ by omega) hb (by omega) (by omega) (by omega) (by omega) (by omega) (by omega) hun c d2 Dd (by omega) (by omega) ok k hk hw2 f
        · have de : e = least := by omega
          obtain ⟨k1, k2⟩ := kup 0 0 u0 (by omega) (by omega)
          rw [Nat.zero_add, Nat.pow_zero, Nat.mul_one] at k1
          rw [k1] at hr
          have hw2 := wid m (by omega)
          by_cases f : I < m
          · rw [(fin m hr).1 f]
            exact smloeqg m p I (g + 1) e least _ w zb (show _ < _ by omega) hb (by omega) (by omega) (by omega) (by omega) (by omega) (by omega) hun c de hw2 f
          · rw [(fin m hr).2 f]
            exact smloeqs m p I (g + 1) e least _ w zb (show _ < _ by omega) hb (by omega) (by omega) (by omega) (by omega) (by omega) (by omega) hun c de hw2 f
    · obtain ⟨u, hu⟩ : ∃ u, g + E - (p + Dd) = u := ⟨_, rfl⟩
      have hui : (g : Int) + e - p - least = (u : Int) := by omega
      rw [hu] at hr
      have hv := HB u (by omega)
      have hv2 : IntKind.u64.wrap ((u : Int) * 2 ^ p) = ((u * 2 ^ p : Nat) : Int) := wrap_pow _ _ _ rfl (by omega)
      generalize u * 2 ^ p = v at *
      by_cases d : (g : Int) + e - p < e
      · obtain ⟨t, ht⟩ : ∃ t : Nat, (e - ((g : Int) + e - p)).toNat = t := ⟨_, rfl⟩
        obtain ⟨k1, k2⟩ := kup u t hu (by omega) (by omega)
        rw [k1] at hr
        have hw : IntKind.u64.wrap ((m : Int) * 2 ^ (e - ((g : Int) + e - p)).toNat) = ((m * 2 ^ t : Nat) : Int) := by rw [ht]; exact wrap_pow _ _ _ rfl (by omega)
        generalize m * 2 ^ t = k at *
        have hs := wid (v + k) (by omega)
        rw [Int.natCast_add] at hs
        by_cases f : I < v + k
        · rw [(fin _ hr).1 f]
          exact smhigtg m p I (g + 1) e least _ w zb (show _ < _ by omega) hb (by omega) (by omega) (by omega) (by omega) (by omega) (by omega) hun c d (by omega) k hw u v (v + k) hui (by omega) (by omega) hv2 hs f
        · rw [(fin _ hr).2 f]
          exact smhigts m p I (g + 1) e least _ w zb (show _ < _ by omega) hb (by omega) (by omega) (by omega) (by omega) (by omega) (by omega) hun c d (by omega) k hw u v (v + k) hui (by omega) (by omega) hv2 hs f
      · by_cases d2 : e < (g : Int) + e - p
        · obtain ⟨j, hj⟩ : ∃ j : Nat, (g : Int) + e - p - e = (j : Int) := ⟨g - p, by omega⟩
          obtain ⟨k1, k2⟩ := kdn u j (by omega) (by omega)
          rw [k1] at hr
          obtain ⟨k, hk⟩ : ∃ k, rne m (2 ^ j) = k := ⟨_, rfl⟩
          rw [hk] at hr k2
          have ok : okm m j := ⟨hm, fun h => by omega⟩
          have hs := wid (v + k) (by omega)
          rw [Int.natCast_add] at hs
          by_cases f : I < v + k
          · rw [(fin _ hr).1 f]
            exact smhiltg m p I (g + 1) e least _ w zb (show _ < _ by omega) hb (by omega) (by omega) (by omega) (by omega) (by omega) (by omega) hun c d2 j (by omega) hj ok k hk u v (v + k) hui (by omega) (by omega) hv2 hs f
          · rw [(fin _ hr).2 f]
            exact smhilts m p I (g + 1) e least _ w zb (show _ < _ by omega) hb (by omega) (by omega) (by omega) (by omega) (by omega) (by omega) hun c d2 j (by omega) hj ok k hk u v (v + k) hui (by omega) (by omega) hv2 hs f
        · have de : e = (g : Int) + e - p := by omega
          obtain ⟨k1, k2⟩ := kup u 0 hu (by omega) (by omega)
          rw [Nat.pow_zero, Nat.mul_one] at k1 k2
          rw [k1] at hr
          have hs := wid (v + m) (by omega)
          rw [Int.natCast_add] at hs
          by_cases f : I < v + m
          · rw [(fin _ hr).1 f]
            exact smhieqg m p I (g + 1) e least _ w zb (show _ < _ by omega) hb (by omega) (by omega) (by omega) (by omega) (by omega) (by omega) hun c de u v (v + m) hui (by omega) (by omega) hv2 hs f
          · rw [(fin _ hr).2 f]
            exact smhieqs m p I (g + 1) e least _ w zb (show _ < _ by omega) hb (by omega) (by omega) (by omega) (by omega) (by omega) (by omega) hun c de u v (v + m) hui (by omega) (by omega) hv2 hs f
end Go.Proofs.YtomenbbhdnfciaaGreatDoor.Ref2

namespace Go.Proofs.YtomenbbhdnfciaaGreatDoor.Ref2
open Go.RowKit Tf
attribute [local go_sem] run_bits run_from raw_feq raw_fne raw_flt raw_fgt run_neg

theorem small52 (m : Nat) (e : Int) (r : Nat) (w : World) (hm : m ≤ 9223372036854775808) (e0 : -1074 ≤ e) (e1 : e ≤ 900) (hr : min (rung 52 0 (m * 2 ^ (e + 1074).toNat)) 9218868437227405312 = r) :
    Calls Tryz.prog 131 #[.int .u64 (m : Nat), .int .i64 e, .int .i64 52, .int .i64 (-1074), .int .u64 9218868437227405312] w fun e w' => e = .returned (.int .u64 (r : Nat)) ∧ w' = w := by
  refine small_at m 52 9218868437227405312 e (-1074) r w hm (.inr e0) (by decide) (by omega) (by omega) (by decide) (by decide) (fun u hu => by omega) ?_
  have h1 : ((-1074 : Int) - e).toNat = 0 := by omega
  have h2 : (e - (-1074)).toNat = (e + 1074).toNat := by omega
  rw [h1, h2]; exact hr
set_option maxHeartbeats 1000000 in
theorem fi_pos (i : Int) (m r : Nat) (w : World) (h : ¬ i < 0) (hi : IntKind.u64.wrap i = (m : Int)) (hw : IntKind.u64.wrap (r : Int) = (r : Int)) (S : Hid (∀ w, Calls Tryz.prog 131 #[.int .u64 (m : Nat), .int .i64 0, .int .i64 52, .int .i64 (-1074), .int .u64 9218868437227405312] w fun e w' => e = .returned (.int .u64 (r : Nat)) ∧ w' = w)) :
    Calls Tryz.prog 102 #[.int .i64 i] w fun e w' => e = .returned (.float .f64 r) ∧ w' = w := by
  go_enter Tryz.func102, Tryz.ntmps102
  go_wp2_with fail
  refine (S.out _).mono ?_
  rintro e w' ⟨rfl, rfl⟩
  go_wp2_with fail
  refine (from_at (r : Int) r _ (by omega)).mono ?_
  rintro e w' ⟨rfl, rfl⟩
  go_wp2
  go_ret
  exact ⟨rfl, rfl⟩

set_option maxHeartbeats 1000000 in
theorem fi_neg (i : Int) (a m r s : Nat) (w : World) (h : i < 0) (hi : IntKind.u64.wrap i = (a : Int)) (ha : IntKind.u64.wrap (-(a : Int)) = (m : Int)) (hw : IntKind.u64.wrap (9223372036854775808 + (r : Int)) = (s : Int)) (S : Hid (∀ w, Calls Tryz.prog 131 #[.int .u64 (m : Nat), .int .i64 0, .int .i64 52, .int .i64 (-1074), .int .u64 9218868437227405312] w fun e w' => e = .returned (.int .u64 (r : Nat)) ∧ w' = w)) :
    Calls Tryz.prog 102 #[.int .i64 i] w fun e w' => e = .returned (.float .f64 s) ∧ w' = w := by
  go_enter Tryz.func102, Tryz.ntmps102
  go_wp2_with fail
  refine (S.out _).mono ?_
  rintro e w' ⟨rfl, rfl⟩
  go_wp2_with fail
  refine (from_at (s : Int) s _ (by omega)).mono ?_
  rintro e w' ⟨rfl, rfl⟩
  go_wp2
  go_ret
  exact ⟨rfl, rfl⟩

theorem refFromInt_at (i : Int) (r : Nat) (w : World) (i0 : -9223372036854775808 ≤ i) (i1 : i ≤ 9223372036854775807) (hr : rn false (i * one) = r) :
    Calls Tryz.prog 102 #[.int .i64 i] w fun e w' => e = .returned (.float .f64 r) ∧ w' = w := by
  have hK : (1074 : Nat) = K := rfl
  have hab : (i * (one : Int)).natAbs = i.natAbs * one := by rw [Int.natAbs_mul, Int.natAbs_natCast]
  have ho : ((0 : Int) + 1074).toNat = K := by rw [K_eq]; decide
  have hs := fun w => small52 i.natAbs 0 _ w (by omega) (by decide) (by decide) rfl
  rw [ho, ← one_pow] at hs
  have hlt : min (rung 52 0 (i.natAbs * one)) 9218868437227405312 ≤ 9218868437227405312 := Nat.min_le_right _ _
  have hp := onep
  have hrn : rn false (i * one) = if i < 0 then 9223372036854775808 + min (rung 52 0 (i.natAbs * one)) 9218868437227405312 else min (rung 52 0 (i.natAbs * one)) 9218868437227405312 := by
    unfold rn
    rw [hab]
    have h2 : (if i * (one : Int) = 0 then false else decide (i * (one : Int) < 0)) = decide (i < 0) := by
      by_cases c : i = 0
      · subst c; simp
      · have c' : ¬ i * (one : Int) = 0 := by rw [Int.mul_eq_zero]; omega
        rw [if_neg c']
        have : i * (one : Int) < 0 ↔ i < 0 := by
          have : i * (one : Int) < 0 * (one : Int) ↔ i < 0 := Int.mul_lt_mul_right hp
          rwa [Int.zero_mul] at this
        exact decide_eq_decide.2 this
    rw [h2]
    by_cases c : i < 0
    · rw [decide_eq_true c, if_pos rfl, if_pos c]
    · rw [decide_eq_false c, if_neg (by decide), if_neg c]
  rw [hrn] at hr
  generalize min (rung 52 0 (i.natAbs * one)) 9218868437227405312 = q at *
  by_cases c : i < 0
  · rw [if_pos c] at hr
    subst hr
    have w1 : IntKind.u64.wrap i = ((18446744073709551616 - i.natAbs : Nat) : Int) := by
      simp [IntKind.wrap, IntKind.bits, IntKind.signed]; omega
    have w2 : IntKind.u64.wrap (-((18446744073709551616 - i.natAbs : Nat) : Int)) = (i.natAbs : Int) := by
      simp [IntKind.wrap, IntKind.bits, IntKind.signed]; omega
    exact fi_neg i _ _ q (9223372036854775808 + q) w c w1 w2 (by rw [wrap_id] <;> omega) hs
  · rw [if_neg c] at hr
    subst hr
    exact fi_pos i i.natAbs q w c (by rw [wrap_id] <;> omega) (by rw [wrap_id] <;> omega) hs
end Go.Proofs.YtomenbbhdnfciaaGreatDoor.Ref2

namespace Go.Proofs.YtomenbbhdnfciaaGreatDoor
open Go.RowKit Tf Cu
attribute [local go_sem] run_bits run_from raw_feq raw_fne raw_flt raw_fgt run_neg run_store_float
def fC (f : Nat) : Int := [1, 2, -1, -2, 3, -3].getD f 0
def fR (f : Nat) : Int := [2, -1, -2, 1, 2, 2].getD f 0
def fU (f : Nat) : Int := [3, 3, 3, 3, -1, 1].getD f 0
set_option maxHeartbeats 4000000 in
theorem rframe8_at (f : Nat) (w : World) (hf : f < 6) :
    Calls Tryz.prog 167 #[.int .i64 f] w fun e w' => e = .returned (.tuple #[.int .i64 (fC f), .int .i64 (fR f), .int .i64 (fU f)]) ∧ Below w.heap.size w w' := by
  rcases six hf with rfl | rfl | rfl | rfl | rfl | rfl
  all_goals
    go_enter Tryz.func167, Tryz.ntmps167
    go_wp2
    go_quiet (fail)
    go_wp2
    refine bodyPost_ret (by simp [results, Tryz.results167, go_sem]; exact ⟨rfl, rfl, rfl⟩) rfl ⟨rfl, ?_⟩
    exact Ab.drewN (bl3 w _ _ _) _
def alV (a b : Int) (x : Nat) : Nat := if a = b then x else if a = -b then negB x else 0
def alO (a b : Int) : Bool := decide (a = b) || decide (a = -b)
set_option maxHeartbeats 2000000 in
theorem ralong8_at (a b : Int) (x : Nat) (w : World) (hx : x < 18446744073709551616) (ha : -3 ≤ a ∧ a ≤ 3) (hb : -3 ≤ b ∧ b ≤ 3) :
    Calls Tryz.prog 168 #[.int .i64 a, .int .i64 b, .float .f64 x] w fun e w' => e = .returned (.tuple #[.float .f64 (alV a b x), .bool (alO a b)]) ∧ w' = w := by
  have n0 := negFloat_eq x hx
  clear hx
  by_cases h1 : a = b
  · have e1 : alV a b x = x := by unfold alV; rw [if_pos h1]
    have e2 : alO a b = true := by unfold alO; rw [decide_eq_true h1]; rfl
    rw [e1, e2]
    clear e1 e2
    go_enter Tryz.func168, Tryz.ntmps168
    go_wp2
    go_ret2
    exact ⟨rfl, rfl⟩
  · by_cases h2 : a = -b
    · have e1 : alV a b x = negB x := by unfold alV; rw [if_neg h1, if_pos h2]
      have e2 : alO a b = true := by unfold alO; rw [decide_eq_true h2, Bool.or_true]
      rw [e1, e2]
      clear e1 e2
      go_enter Tryz.func168, Tryz.ntmps168
      go_wp2
      go_ret2
      exact ⟨rfl, rfl⟩
    · have e1 : alV a b x = 0 := by unfold alV; rw [if_neg h1, if_neg h2]
      have e2 : alO a b = false := by unfold alO; rw [decide_eq_false h1, decide_eq_false h2]; rfl
      rw [e1, e2]
      clear e1 e2
      go_enter Tryz.func168, Tryz.ntmps168
      go_wp2
      go_ret2
      exact ⟨rfl, rfl⟩
/-- what lies along an axis -/
def cmp (f : Nat) (b : Int) (p q : Nat) : Nat := if alO (fC f) b then alV (fC f) b 4607182418800017408 else if alO (fR f) b then alV (fR f) b p else alV (fU f) b q
theorem cmp_oc {f : Nat} (hf : f < 6) (p q : Nat) : cmp f 1 p q = (oc f p q).1 ∧ cmp f 2 p q = (oc f p q).2.1 ∧ cmp f 3 p q = (oc f p q).2.2 := by
  rcases six hf with rfl | rfl | rfl | rfl | rfl | rfl <;> simp [cmp, alO, alV, fC, fR, fU, oc] <;> decide
theorem fr_le {f : Nat} (hf : f < 6) : (-3 ≤ fC f ∧ fC f ≤ 3) ∧ (-3 ≤ fR f ∧ fR f ≤ 3) ∧ (-3 ≤ fU f ∧ fU f ≤ 3) := by
  rcases six hf with rfl | rfl | rfl | rfl | rfl | rfl <;> decide
set_option maxHeartbeats 4000000 in
theorem rcomp8_at (f : Nat) (b : Int) (p q : Nat) (w : World) (hf : f < 6) (hb : -3 ≤ b ∧ b ≤ 3) (hp : p < 18446744073709551616) (hq : q < 18446744073709551616) :
    Calls Tryz.prog 161 #[.int .i64 f, .int .i64 b, .float .f64 p, .float .f64 q] w fun e w' => e = .returned (.float .f64 (canonB (cmp f b p q))) ∧ Below w.heap.size w w' := by
  obtain ⟨k1, k2, k3⟩ := fr_le hf
  have FR := hid (fun u => rframe8_at f u hf)
  have A1 := hid (fun u => ralong8_at (fC f) b 4607182418800017408 u (by omega) k1 hb)
  have A2 := hid (fun u => ralong8_at (fR f) b p u hp k2 hb)
  have A3 := hid (fun u => ralong8_at (fU f) b q u hq k3 hb)
  have C1 := hid (fun u => rcanon_any (alV (fC f) b 4607182418800017408) u)
  have C2 := hid (fun u => rcanon_any (alV (fR f) b p) u)
  have C3 := hid (fun u => rcanon_any (alV (fU f) b q) u)
  unfold cmp
  generalize alV (fC f) b 4607182418800017408 = x1 at *
  generalize alV (fR f) b p = x2 at *
  generalize alV (fU f) b q = x3 at *
  generalize alO (fC f) b = o1 at *
  generalize alO (fR f) b = o2 at *
  generalize alO (fU f) b = o3 at *
  generalize fC f = c at *
  generalize fR f = r at *
  generalize fU f = u at *
  clear hf hb hp hq k1 k2 k3
  cases o1 with
  | true =>
    rw [if_pos rfl]
    go_enter Tryz.func161, Tryz.ntmps161
    go_wp2_with fail
    refine (FR.out _).mono ?_
    rintro e v ⟨rfl, b1⟩
    go_wp2_with fail
    refine (A1.out _).mono ?_
    rintro e v2 ⟨rfl, rfl⟩
    go_wp2_with fail
    refine (C1.out _).mono ?_
    rintro e v3 ⟨rfl, rfl⟩
    go_wp2
    go_ret
    exact ⟨rfl, b1⟩
  | false =>
    rw [if_neg Bool.false_ne_true]
    cases o2 with
    | true =>
      rw [if_pos rfl]
      go_enter Tryz.func161, Tryz.ntmps161
      go_wp2_with fail
      refine (FR.out _).mono ?_
      rintro e v ⟨rfl, b1⟩
      go_wp2_with fail
      refine (A1.out _).mono ?_
      rintro e v2 ⟨rfl, rfl⟩
      go_wp2_with fail
      refine (A2.out _).mono ?_
      rintro e v3 ⟨rfl, rfl⟩
      go_wp2_with fail
      refine (C2.out _).mono ?_
      rintro e v4 ⟨rfl, rfl⟩
      go_wp2
      go_ret
      exact ⟨rfl, b1⟩
    | false =>
      rw [if_neg Bool.false_ne_true]
      go_enter Tryz.func161, Tryz.ntmps161
      go_wp2_with fail
      refine (FR.out _).mono ?_
      rintro e v ⟨rfl, b1⟩
      go_wp2_with fail
      refine (A1.out _).mono ?_
      rintro e v2 ⟨rfl, rfl⟩
      go_wp2_with fail
      refine (A2.out _).mono ?_
      rintro e v3 ⟨rfl, rfl⟩
      go_wp2_with fail
      refine (A3.out _).mono ?_
      rintro e v4 ⟨rfl, rfl⟩
      go_wp2_with fail
      refine (C3.out _).mono ?_
      rintro e v5 ⟨rfl, rfl⟩
      go_wp2
      go_ret
      exact ⟨rfl, b1⟩
set_option maxHeartbeats 2000000 in
theorem rratio_at (k n : Int) (w : World) (hk : -1000 ≤ k ∧ k ≤ 1000) (hn : -1000 ≤ n ∧ n ≤ 1000) :
    Calls Tryz.prog 142 #[.int .i64 k, .int .i64 n] w fun e w' => ∃ r m, e = .returned (.float .f64 r) ∧ w' = w.drewN m ∧ Hid (IsC r (dvB (fB k) (fB n))) := by
  have F1 : Hid (∀ w, Calls Tryz.prog 102 #[.int .i64 k] w fun e w' => e = .returned (.float .f64 (fB k)) ∧ w' = w) := fun w => Ref2.refFromInt_at k _ w (by omega) (by omega) rfl
  have F2 : Hid (∀ w, Calls Tryz.prog 102 #[.int .i64 n] w fun e w' => e = .returned (.float .f64 (fB n)) ∧ w' = w) := fun w => Ref2.refFromInt_at n _ w (by omega) (by omega) rfl
  obtain ⟨r, m, hr, hc⟩ := div_any (P := Tryz.prog) w (fB k) (fB n)
  have HC := hid hc
  generalize dvB (fB k) (fB n) = d at *
  generalize fB k = x at *
  generalize fB n = y at *
  clear hc hk hn
  go_enter Tryz.func142, Tryz.ntmps142
  go_wp2_with fail
  refine (F1.out _).mono ?_
  rintro e v2 ⟨rfl, rfl⟩
  go_wp2_with fail
  refine (F2.out _).mono ?_
  rintro e v3 ⟨rfl, rfl⟩
  go_wp2
  go_ret
  exact ⟨r, m, rfl, rfl, HC⟩
end Go.Proofs.YtomenbbhdnfciaaGreatDoor

namespace Go.Proofs.YtomenbbhdnfciaaGreatDoor
open Go.RowKit Tf Cu
attribute [local go_sem] run_bits run_from raw_feq raw_fne raw_flt raw_fgt run_neg run_store_float
set_option maxHeartbeats 8000000 in
theorem rpoint8_at (n f p q : Nat) (k h : Int) (w : World) (n1 : 1 ≤ n) (n2 : n ≤ 32) (hf : f < 6) (hp : IsC p (qo n k)) (hq : IsC q (qo n h)) :
    Calls Tryz.prog 141 #[.int .i64 f, .float .f64 p, .float .f64 q] w fun e w' => e = .returned (.agg #[.float .f64 (px n (fp n f k h)), .float .f64 (py n (fp n f k h)), .float .f64 (pz n (fp n f k h))]) ∧ Below w.heap.size w w' := by
  obtain ⟨c1, c2, c3⟩ := oc_fp n1 n2 hf hp hq
  obtain ⟨d1, d2, d3⟩ := cmp_oc hf p q
  have K1 := hid (fun u => rcomp8_at f 1 p q u hf (by omega) hp.1 hq.1)
  have K2 := hid (fun u => rcomp8_at f 2 p q u hf (by omega) hp.1 hq.1)
  have K3 := hid (fun u => rcomp8_at f 3 p q u hf (by omega) hp.1 hq.1)
  rw [d1, c1] at K1
  rw [d2, c2] at K2
  rw [d3, c3] at K3
  have UN := hid (fun w => runit_at _ _ _ w (qo_lt n (fp n f k h).1) (qo_lt n (fp n f k h).2.1) (qo_lt n (fp n f k h).2.2))
  have hux : unB (lnB (qo n (fp n f k h).1) (qo n (fp n f k h).2.1) (qo n (fp n f k h).2.2)) (qo n (fp n f k h).1) = px n (fp n f k h) := rfl
  have huy : unB (lnB (qo n (fp n f k h).1) (qo n (fp n f k h).2.1) (qo n (fp n f k h).2.2)) (qo n (fp n f k h).2.1) = py n (fp n f k h) := rfl
  have huz : unB (lnB (qo n (fp n f k h).1) (qo n (fp n f k h).2.1) (qo n (fp n f k h).2.2)) (qo n (fp n f k h).2.2) = pz n (fp n f k h) := rfl
  rw [hux, huy, huz] at UN
  clear hux huy huz c1 c2 c3 d1 d2 d3 hp hq n1 n2 hf
  generalize px n (fp n f k h) = a at *
  generalize py n (fp n f k h) = b at *
  generalize pz n (fp n f k h) = c at *
  generalize qo n (fp n f k h).1 = x at *
  generalize qo n (fp n f k h).2.1 = y at *
  generalize qo n (fp n f k h).2.2 = z at *
  have A0 := hid (bl1 w (.cells #[.float .f64 0, .float .f64 0, .float .f64 0] 140))
  have R0 := hid (heap_alloc_new w (.cells #[.float .f64 0, .float .f64 0, .float .f64 0] 140))
  go_enter Tryz.func141, Tryz.ntmps141
  go_wp2_with fail
  refine (K1.out _).mono ?_
  rintro e v1 ⟨rfl, b1⟩
  go_wp2_with fail
  refine (K2.out _).mono ?_
  rintro e v2 ⟨rfl, b2⟩
  go_wp2_with fail
  refine (K3.out _).mono ?_
  rintro e v3 ⟨rfl, b3⟩
  go_wp2_with fail
  refine (UN.out _).mono ?_
  rintro e v4 ⟨rfl, b4⟩
  have A4 : Hid (Ab w v4) := Ab.call (Ab.call (Ab.call (Ab.call A0.out b1) b2) b3) b4
  have r0 : v4.heap[w.heap.size]? = some (.cells #[.float .f64 0, .float .f64 0, .float .f64 0] 140) := Ab.heap b4 (Ab.heap b3 (Ab.heap b2 (Ab.heap b1 R0.out)))
  obtain ⟨⟨o0, o1, o2⟩, o3, o4, o5⟩ := rowfacts r0
  have R4 := hid r0
  clear r0 b1 b2 b3 b4 A0 R0
  go_wp2
  refine bodyPost_ret ?_ rfl ⟨rfl, ?_⟩
  · exact results_cell_row Tryz.results141 _ _ w.heap.size _ _ (0, 0) _ rfl (row3 R4.out) Tryz.underlying140 rfl (by kernel_rfl)
  · exact ((Ab.setk A4.out (by omega) _).setk (by omega) _).setk (by omega) _
set_option maxHeartbeats 4000000 in
theorem rcorner_ok (n f i j : Nat) (w : World) (hn : 1 ≤ n ∧ n ≤ 32) (hf : f < 6) (hi : i ≤ n) (hj : j ≤ n) :
    Calls Tryz.prog 109 #[.int .i64 n, .int .i64 f, .int .i64 i, .int .i64 j] w fun e w' => e = .returned (.tuple #[.agg #[.float .f64 (px n (cr n f i j)), .float .f64 (py n (cr n f i j)), .float .f64 (pz n (cr n f i j))], .bool true]) ∧ Below w.heap.size w w' := by
  have PA : Hid (∀ (k : Int) u, -1000 ≤ k ∧ k ≤ 1000 → Calls Tryz.prog 142 #[.int .i64 k, .int .i64 n] u fun e w' => ∃ r m, e = .returned (.float .f64 r) ∧ w' = u.drewN m ∧ Hid (IsC r (qo n k))) := fun k u hk => rratio_at k n u hk (by omega)
  have PO : Hid (∀ p q u, Hid (IsC p (qo n (2 * i - n))) → Hid (IsC q (qo n (2 * j - n))) → Calls Tryz.prog 141 #[.int .i64 f, .float .f64 p, .float .f64 q] u fun e w' => e = .returned (.agg #[.float .f64 (px n (cr n f i j)), .float .f64 (py n (cr n f i j)), .float .f64 (pz n (cr n f i j))]) ∧ Below u.heap.size u w') := fun p q u hp hq => rpoint8_at n f p q _ _ u hn.1 hn.2 hf hp hq
  generalize px n (cr n f i j) = a at *
  generalize py n (cr n f i j) = b at *
  generalize pz n (cr n f i j) = c at *
  have A0 := hid (bl1 w (.cells #[.float .f64 0, .float .f64 0, .float .f64 0] 140))
  have R0 := hid (heap_alloc_new w (.cells #[.float .f64 0, .float .f64 0, .float .f64 0] 140))
  have hi2 : (i : Int) ≤ 32 := by omega
  have hj2 : (j : Int) ≤ 32 := by omega
  have hn2 : (n : Int) ≤ 32 := by omega
  have hn1 : 1 ≤ (n : Int) := by omega
  have hf2 : (f : Int) ≤ 5 := by omega
  have hi3 : (i : Int) ≤ n := by omega
  have hj3 : (j : Int) ≤ n := by omega
  clear hn hf hi hj
  go_enter Tryz.func109, Tryz.ntmps109
  go_wp2_with fail
  refine (PA.out _ _ (by omega)).mono ?_
  rintro e w1 ⟨p, m1, rfl, rfl, hp⟩
  go_wp2_with fail
  refine (PA.out _ _ (by omega)).mono ?_
  rintro e w1 ⟨q, m2, rfl, rfl, hq⟩
  go_wp2_with fail
  refine (PO.out _ _ _ hp hq).mono ?_
  rintro e w3 ⟨rfl, b3⟩
  have A3 : Hid (Ab w w3) := Ab.call (Ab.drewN A0.out _) b3
  have r0 : w3.heap[w.heap.size]? = some (.cells #[.float .f64 0, .float .f64 0, .float .f64 0] 140) := Ab.heap b3 R0.out
  obtain ⟨⟨o0, o1, o2⟩, o3, o4, o5⟩ := rowfacts r0
  have R3 := hid r0
  clear r0 b3 A0 R0
  go_wp2
  refine bodyPost_ret ?_ rfl ⟨rfl, ?_⟩
  · exact res_two Tryz.results109 _ _ w.heap.size _ _ (0, 0) _ _ rfl rfl (row3 R3.out) Tryz.underlying140 rfl (by kernel_rfl)
  · exact ((Ab.setk A3.out (by omega) _).setk (by omega) _).setk (by omega) _
theorem rplace_okN (n c : Nat) (hn : 1 ≤ n ∧ n ≤ 32) (hc : c < 6 * n * n) (w : World) :
    Calls Tryz.prog 100 #[.int .i64 n, .int .i64 c] w fun e w' => e = .returned (.tuple #[.int .i64 (cf n c), .int .i64 (ci n c), .int .i64 (cj n c), .bool true]) ∧ ∃ k, w' = w.drewN k := by
  have h := rplace_at n c w
  have hin : inR c (clN n) = true := by rw [inR_iff, clN_nat hn]; omega
  rw [hin, show pF n c = (cf n c : Nat) by simp [pF, hin, cf], show pI n c = (ci n c : Nat) by simp [pI, hin, ci], show pJ n c = (cj n c : Nat) by simp [pJ, hin, cj]] at h
  exact h
end Go.Proofs.YtomenbbhdnfciaaGreatDoor
