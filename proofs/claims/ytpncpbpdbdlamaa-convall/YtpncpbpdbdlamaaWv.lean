/-
  The reference's rounding to a float of fewer bits is the nearest rung: the walk's answer by plain numbers.
-/
import Derived.Test.YtpncpbpdbdlamaaWz
namespace Go.Proofs.Ytpncpbpdbdlamaa.Ref2
open Go.RowKit Tf
attribute [local go_sem] run_bits run_from raw_feq raw_fne raw_flt raw_fgt run_neg

set_option maxHeartbeats 1000000 in
theorem small_0 (e p least : Int) (I : Nat) (w : World) :
    Calls Try.prog 40 #[.int .u64 0, .int .i64 e, .int .i64 p, .int .i64 least, .int .u64 (I : Nat)] w fun e w' => e = .returned (.int .u64 0) ∧ w' = w := by
  go_enter Try.func40, Try.ntmps40
  go_wp2
  go_ret
  exact ⟨rfl, rfl⟩
theorem rung_none (p d : Nat) : rung p d 0 = 0 := by unfold rung rne; simp
theorem rne_up (m t d : Nat) : rne (m * 2 ^ (d + t)) (2 ^ d) = m * 2 ^ t := by
  rw [Nat.add_comm, Nat.pow_add, ← Nat.mul_assoc, rne_mul _ _ (pow_pos d)]
theorem rne_dn (m j E : Nat) : rne (m * 2 ^ E) (2 ^ (j + E)) = rne m (2 ^ j) := by
  rw [Nat.pow_add, rne_scale _ _ _ (pow_pos E)]
theorem rne_top (m j p : Nat) (h : m < 2 ^ (p + 1 + j)) : rne m (2 ^ j) ≤ 2 ^ (p + 1) := by
  have h1 := rne_mono (2 ^ j) (show m ≤ 2 ^ (p + 1) * 2 ^ j by rw [← Nat.pow_add]; omega)
  rwa [rne_mul _ _ (pow_pos j)] at h1

theorem small_at (m p I : Nat) (e least : Int) (r : Nat) (w : World) (hm : m ≤ 9223372036854775808) (hm2 : m < 9223372036854775808 ∨ least ≤ e) (hp : p ≤ 52) (e0 : -1100 ≤ e) (e1 : e ≤ 1100) (l0 : -1100 ≤ least) (l1 : least ≤ 0)
    (HB : ∀ u : Nat, (u : Int) ≤ 64 + e - least → u * 2 ^ p < 9223372036854775808) (hr : min (rung p (least - e).toNat (m * 2 ^ (e - least).toNat)) I = r) :
    Calls Try.prog 40 #[.int .u64 (m : Nat), .int .i64 e, .int .i64 (p : Nat), .int .i64 least, .int .u64 (I : Nat)] w fun e w' => e = .returned (.int .u64 (r : Nat)) ∧ w' = w := by
  by_cases z : m = 0
  · subst z
    rw [Nat.zero_mul, rung_none, Nat.zero_min] at hr
    subst hr
    exact small_0 e p least I w
  · have zb : ((m : Int) == 0) = false := by simp; omega
    obtain ⟨g, hg⟩ : ∃ g, m.log2 = g := ⟨_, rfl⟩
    have hb : bl m = g + 1 := by unfold bl; rw [if_neg z, hg]
    have g63 : g ≤ 63 := by
      have := log2_small (k := 63) (show m < 2 ^ (63 + 1) by omega)
      omega
    have hlo : 2 ^ g ≤ m := by rw [← hg]; exact Nat.log2_self_le z
    have hhi : m < 2 ^ (g + 1) := by rw [← hg]; exact Nat.lt_log2_self
    obtain ⟨E, hE⟩ : ∃ E, (e - least).toNat = E := ⟨_, rfl⟩
    obtain ⟨Dd, hD⟩ : ∃ Dd, (least - e).toNat = Dd := ⟨_, rfl⟩
    have hlogN : (m * 2 ^ E).log2 = g + E := by rw [log2_mul_pow m E z, hg]
    rw [hE, hD] at hr
    have hrung : rung p Dd (m * 2 ^ E) = (g + E - (p + Dd)) * 2 ^ p + rne (m * 2 ^ E) (2 ^ (g + E - (p + Dd) + Dd)) := by unfold rung; rw [hlogN]
    rw [hrung] at hr
    have hp53 : 2 ^ (p + 1) ≤ 2 ^ 53 := Nat.pow_le_pow_right (by omega) (by omega)
    have hun : ((g + 1 : Nat) : Int) + e - ((p : Int) + 1) = (g : Int) + e - p := by omega
    have wid : ∀ a : Nat, a < 18446744073709551616 → IntKind.u64.wrap (a : Int) = (a : Int) := fun a h => by rw [wrap_id] <;> omega
    -- what is kept, in each of the three ways; 'u': the band; 't': how far up
    have kup : ∀ u t : Nat, g + E - (p + Dd) = u → E = u + Dd + t → g + t ≤ p → rne (m * 2 ^ E) (2 ^ (u + Dd)) = m * 2 ^ t ∧ m * 2 ^ t ≤ 2 ^ (p + 1) := by
      intro u t _ h2 h3
      refine ⟨by rw [h2]; exact rne_up m t (u + Dd), ?_⟩
      have h4 : m * 2 ^ t ≤ 2 ^ (g + 1) * 2 ^ t := Nat.mul_le_mul_right _ (by omega)
      rw [← Nat.pow_add] at h4
      exact Nat.le_trans h4 (Nat.pow_le_pow_right (by omega) (by omega))
    have kdn : ∀ u j : Nat, u + Dd = j + E → g ≤ p + j → rne (m * 2 ^ E) (2 ^ (u + Dd)) = rne m (2 ^ j) ∧ rne m (2 ^ j) ≤ 2 ^ (p + 1) := by
      intro u j h2 h3
      refine ⟨by rw [h2]; exact rne_dn m j E, rne_top m j p ?_⟩
      exact Nat.lt_of_lt_of_le hhi (Nat.pow_le_pow_right (by omega) (by omega))
    have fin : ∀ b : Nat, min b I = r → (I < b → r = I) ∧ (¬ I < b → r = b) := by intro b h; omega
    by_cases c : (g : Int) + e - p < least
    · have u0 : g + E - (p + Dd) = 0 := by omega
      rw [u0, Nat.zero_mul, Nat.zero_add, Nat.zero_add] at hr
      by_cases d : least < e
      · obtain ⟨k1, k2⟩ := kup 0 E u0 (by omega) (by omega)
        rw [Nat.zero_add] at k1
        rw [k1] at hr
        have hw : IntKind.u64.wrap ((m : Int) * 2 ^ (e - least).toNat) = ((m * 2 ^ E : Nat) : Int) := by rw [hE]; exact wrap_pow _ _ _ rfl (by omega)
        have hw2 := wid (m * 2 ^ E) (by omega)
        generalize m * 2 ^ E = k at *
        by_cases f : I < k
        · rw [(fin k hr).1 f]
          exact smlogtg m p I (g + 1) e least _ w zb (show _ < _ by omega) hb (by omega) (by omega) (by omega) (by omega) (by omega) (by omega) hun c d (by omega) k hw hw2 f
        · rw [(fin k hr).2 f]
          exact smlogts m p I (g + 1) e least _ w zb (show _ < _ by omega) hb (by omega) (by omega) (by omega) (by omega) (by omega) (by omega) hun c d (by omega) k hw hw2 f
      · by_cases d2 : e < least
        · obtain ⟨k1, k2⟩ := kdn 0 Dd (by omega) (by omega)
          rw [Nat.zero_add] at k1
          rw [k1] at hr
          obtain ⟨k, hk⟩ : ∃ k, rne m (2 ^ Dd) = k := ⟨_, rfl⟩
          rw [hk] at hr k2
          have hw2 := wid k (by omega)
          have ok : okm m Dd := okm_of _ _ (by omega)
          by_cases f : I < k
          · rw [(fin k hr).1 f]
            exact smloltg m p I (g + 1) e least _ w zb (show _ < _ by omega) hb (by omega) (by omega) (by omega) (by omega) (by omega) (by omega) hun c d2 Dd (by omega) (by omega) ok k hk hw2 f
          · rw [(fin k hr).2 f]
            exact smlolts m p I (g + 1) e least _ w zb (show _ < _ by omega) hb (by omega) (by omega) (by omega) (by omega) (by omega) (by omega) hun c d2 Dd (by omega) (by omega) ok k hk hw2 f
        · have de : e = least := by omega
          obtain ⟨k1, k2⟩ := kup 0 0 u0 (by omega) (by omega)
          rw [Nat.zero_add, Nat.pow_zero, Nat.mul_one] at k1
          rw [k1] at hr
          have hw2 := wid m (by omega)
          by_cases f : I < m
          · rw [(fin m hr).1 f]
            exact smloeqg m p I (g + 1) e least _ w zb (show _ < _ by omega) hb (by omega) (by omega) (by omega) (by omega) (by omega) (by omega) hun c de hw2 f
          · rw [(fin m hr).2 f]
            exact smloeqs m p I (g + 1) e least _ w zb (show _ < _ by omega) hb (by omega) (by omega) (by omega) (by omega) (by omega) (by omega) hun c de hw2 f
    · obtain ⟨u, hu⟩ : ∃ u, g + E - (p + Dd) = u := ⟨_, rfl⟩
      have hui : (g : Int) + e - p - least = (u : Int) := by omega
      rw [hu] at hr
      have hv := HB u (by omega)
      have hv2 : IntKind.u64.wrap ((u : Int) * 2 ^ p) = ((u * 2 ^ p : Nat) : Int) := wrap_pow _ _ _ rfl (by omega)
      generalize u * 2 ^ p = v at *
      by_cases d : (g : Int) + e - p < e
      · obtain ⟨t, ht⟩ : ∃ t : Nat, (e - ((g : Int) + e - p)).toNat = t := ⟨_, rfl⟩
        obtain ⟨k1, k2⟩ := kup u t hu (by omega) (by omega)
        rw [k1] at hr
        have hw : IntKind.u64.wrap ((m : Int) * 2 ^ (e - ((g : Int) + e - p)).toNat) = ((m * 2 ^ t : Nat) : Int) := by rw [ht]; exact wrap_pow _ _ _ rfl (by omega)
        generalize m * 2 ^ t = k at *
        have hs := wid (v + k) (by omega)
        rw [Int.natCast_add] at hs
        by_cases f : I < v + k
        · rw [(fin _ hr).1 f]
          exact smhigtg m p I (g + 1) e least _ w zb (show _ < _ by omega) hb (by omega) (by omega) (by omega) (by omega) (by omega) (by omega) hun c d (by omega) k hw u v (v + k) hui (by omega) (by omega) hv2 hs f
        · rw [(fin _ hr).2 f]
          exact smhigts m p I (g + 1) e least _ w zb (show _ < _ by omega) hb (by omega) (by omega) (by omega) (by omega) (by omega) (by omega) hun c d (by omega) k hw u v (v + k) hui (by omega) (by omega) hv2 hs f
      · by_cases d2 : e < (g : Int) + e - p
        · obtain ⟨j, hj⟩ : ∃ j : Nat, (g : Int) + e - p - e = (j : Int) := ⟨g - p, by omega⟩
          obtain ⟨k1, k2⟩ := kdn u j (by omega) (by omega)
          rw [k1] at hr
          obtain ⟨k, hk⟩ : ∃ k, rne m (2 ^ j) = k := ⟨_, rfl⟩
          rw [hk] at hr k2
          have ok : okm m j := ⟨hm, fun h => by omega⟩
          have hs := wid (v + k) (by omega)
          rw [Int.natCast_add] at hs
          by_cases f : I < v + k
          · rw [(fin _ hr).1 f]
            exact smhiltg m p I (g + 1) e least _ w zb (show _ < _ by omega) hb (by omega) (by omega) (by omega) (by omega) (by omega) (by omega) hun c d2 j (by omega) hj ok k hk u v (v + k) hui (by omega) (by omega) hv2 hs f
          · rw [(fin _ hr).2 f]
            exact smhilts m p I (g + 1) e least _ w zb (show _ < _ by omega) hb (by omega) (by omega) (by omega) (by omega) (by omega) (by omega) hun c d2 j (by omega) hj ok k hk u v (v + k) hui (by omega) (by omega) hv2 hs f
        · have de : e = (g : Int) + e - p := by omega
          obtain ⟨k1, k2⟩ := kup u 0 hu (by omega) (by omega)
          rw [Nat.pow_zero, Nat.mul_one] at k1 k2
          rw [k1] at hr
          have hs := wid (v + m) (by omega)
          rw [Int.natCast_add] at hs
          by_cases f : I < v + m
          · rw [(fin _ hr).1 f]
            exact smhieqg m p I (g + 1) e least _ w zb (show _ < _ by omega) hb (by omega) (by omega) (by omega) (by omega) (by omega) (by omega) hun c de u v (v + m) hui (by omega) (by omega) hv2 hs f
          · rw [(fin _ hr).2 f]
            exact smhieqs m p I (g + 1) e least _ w zb (show _ < _ by omega) hb (by omega) (by omega) (by omega) (by omega) (by omega) (by omega) hun c de u v (v + m) hui (by omega) (by omega) hv2 hs f
end Go.Proofs.Ytpncpbpdbdlamaa.Ref2
