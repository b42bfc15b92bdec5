/-
  The float nearest to words: what the calls return.
-/
import Derived.Test.YtgbnabpbheebjaaGs
namespace Go.Proofs.Ytgbnabpbheebjaa
open Go.RowKit Tf

theorem dg_inj (A B : Nat) (hA : (A : Int) < PW) (hB : (B : Int) < PW) (h : ∀ j, j < 66 → dg (A : Int) j = dg (B : Int) j) : A = B := by
  have key : ∀ n, n ≤ 66 → A % 2 ^ (64 * n) = B % 2 ^ (64 * n) := by
    intro n
    induction n with
    | zero => intro _; rw [Nat.mul_zero, Nat.pow_zero, Nat.mod_one, Nat.mod_one]
    | succ n ih =>
      intro hn
      have h1 := ih (by omega)
      have h2 := h n (by omega)
      rw [dg_nat, dg_nat] at h2
      have e : 2 ^ (64 * (n + 1)) = 2 ^ (64 * n) * 18446744073709551616 := by rw [show 64 * (n + 1) = 64 * n + 64 by omega, Nat.pow_add, e64]
      rw [e, Nat.mod_mul, Nat.mod_mul, h1]
      have h3 : A / 2 ^ (64 * n) % 18446744073709551616 = B / 2 ^ (64 * n) % 18446744073709551616 := by omega
      rw [h3]
  have hk : ∀ n, n = 66 → A = B := by
    intro n hn
    have h1 := key n (by omega)
    have e := PW_eq n hn
    rw [Nat.mod_eq_of_lt (by omega), Nat.mod_eq_of_lt (by omega)] at h1
    exact h1
  exact hk 66 rfl
theorem words_dec (A B : Nat) (hA : (A : Int) < PW) (hB : (B : Int) < PW) : ((List.range 66).all fun i => dg (A : Int) i == dg (B : Int) i) = decide (A = B) := by
  by_cases c : A = B
  · subst c; simp
  · rw [decide_eq_false c]
    cases hb : (List.range 66).all fun i => dg (A : Int) i == dg (B : Int) i
    · rfl
    · exfalso
      apply c
      refine dg_inj A B hA hB (fun j hj => ?_)
      have := List.all_eq_true.1 hb j (by simpa using hj)
      simpa using this
theorem pow_PW (k n : Nat) (hn : n = 66) (h : k ≤ 64 * n) : ((2 ^ k : Nat) : Int) ≤ PW := by
  rw [← PW_eq n hn]
  have := Nat.pow_le_pow_right (show 0 < 2 by decide) h
  omega

theorem inf_min (a z : Nat) (h : 2046 ≤ a) (hz : 4503599627370496 ≤ z) : min (a * 4503599627370496 + z) 9218868437227405312 = 9218868437227405312 := Nat.min_eq_right (by omega)
theorem fin_min (a z : Nat) (h : a ≤ 2045) (hz : z ≤ 9007199254740992) : min (a * 4503599627370496 + z) 9218868437227405312 = ((a : Int) * 4503599627370496 + (z : Int)).toNat := by
  rw [Nat.min_eq_left (by omega)]; omega
set_option maxHeartbeats 2000000 in
/-- THE FLOAT NEAREST TO A MAGNITUDE -/
theorem mag_at (V : Nat) (w : World) (hV : (V : Int) < PW) :
    Calls Try.prog 49 #[.agg (encF (dg (V : Int)))] w fun e w' => e = .returned (.float .f64 (min (rung 52 K V) 9218868437227405312)) ∧ Below w.heap.size w w' := by
  have hT : ∀ U : Nat, (U : Int) < PW → Hid (∀ w, Calls Try.prog 50 #[.agg (encF (dg (U : Int)))] w fun e w' => e = .returned (.int .i64 (if U = 0 then -1 else ((U.log2 : Nat) : Int))) ∧ Below w.heap.size w w') := by
    intro U hU w
    refine (top_at U w hU).mono ?_
    rintro e w' ⟨h1, rfl⟩
    exact ⟨h1, (Below.refl _ _).alloc (by omega) _⟩
  have T := hT V hV
  obtain ⟨t, ht⟩ : ∃ t : Int, (if V = 0 then -1 else ((V.log2 : Nat) : Int)) = t := ⟨_, rfl⟩
  rw [ht] at T
  have ht0 : -1 ≤ t := by rw [← ht]; split <;> omega
  have hK := K_eq
  obtain ⟨L, hL⟩ : ∃ L, V.log2 - (52 + K) + K = L := ⟨_, rfl⟩
  have hrung : rung 52 K V = (L - K) * 4503599627370496 + rne V (2 ^ L) := by
    unfold rung
    rw [hL, show V.log2 - (52 + K) = L - K by omega]
  have htL : V.log2 = 0 ∨ t = V.log2 := by
    by_cases c : V = 0
    · left; subst c; decide
    · right; rw [← ht, if_neg c]
  have hlog : V < 2 ^ (V.log2 + 1) := Nat.lt_log2_self
  have hpL := pow_pos L
  by_cases c : 3172 ≤ t
  · have hV0 : V ≠ 0 := by intro e; rw [← ht, if_pos e] at c; omega
    have htv : (V.log2 : Int) = t := by rw [← ht, if_neg hV0]
    have h1 : V / 2 ^ L ≥ 4503599627370496 := by
      have h2 : 2 ^ V.log2 ≤ V := Nat.log2_self_le hV0
      have e : V.log2 = 52 + L := by omega
      rw [e, Nat.pow_add] at h2
      have h3 := (Nat.le_div_iff_mul_le hpL).2 h2
      have e52 : (2 : Nat) ^ 52 = 4503599627370496 := by decide
      omega
    have h2 := rne_ge V (2 ^ L)
    have hm : min (rung 52 K V) 9218868437227405312 = 9218868437227405312 := by
      rw [hrung]
      exact inf_min _ _ (by omega) (Nat.le_trans h1 h2)
    rw [hm]
    exact mag_inf _ t w (encF_size _) c T
  · have hl : (if t - 52 < 1074 then 1074 else t - 52) = (L : Int) := by
      split <;> omega
    have hL1 : 1074 ≤ L := by omega
    have hL2 : L < 3120 := by omega
    have hVL : V / 2 ^ L < 9007199254740992 := by
      apply Nat.div_lt_of_lt_mul
      refine Nat.lt_of_lt_of_le hlog ?_
      have e53 : (9007199254740992 : Nat) = 2 ^ 53 := by decide
      rw [e53, ← Nat.pow_add]
      exact Nat.pow_le_pow_right (by decide) (by omega)
    have hRlt : V % 2 ^ L < 2 ^ L := Nat.mod_lt _ hpL
    have hpow : ∀ k, k < 3200 → ((2 ^ k : Nat) : Int) ≤ PW := fun k hk => pow_PW k 66 rfl (by omega)
    have hpow1 : ((2 ^ (L - 1) : Nat) : Int) < PW := by
      have h1 := hpow L (by omega)
      have : 2 ^ (L - 1) < 2 ^ L := Nat.pow_lt_pow_right (by decide) (by omega)
      omega
    have hRP : ((V % 2 ^ L : Nat) : Int) < PW := by have h1 := hpow L (by omega); omega
    have F : Hid (∀ w, Calls Try.prog 51 #[.agg (encF (dg (V : Int))), .int .i64 (L : Int)] w fun e w' => e = .returned (.int .u64 ((V / 2 ^ L : Nat) : Int)) ∧ Below w.heap.size w w') := by
      intro w
      refine (from_at V L w (by omega)).mono ?_
      rintro e w' ⟨h1, rfl⟩
      rw [Nat.mod_eq_of_lt (by omega)] at h1
      exact ⟨h1, ((Below.refl _ _).alloc (by omega) _).drew⟩
    have B : Hid (∀ w, Calls Try.prog 52 #[.agg (encF (dg (V : Int))), .int .i64 (L : Int)] w fun e w' => e = .returned (.agg (encF (dg ((V % 2 ^ L : Nat) : Int)))) ∧ Below w.heap.size w w') := fun w => below_at V L w (by omega)
    have N : Hid (∀ w, Calls Try.prog 53 #[.int .i64 ((L : Int) - 1)] w fun e w' => e = .returned (.agg (encF (dg ((2 ^ (L - 1) : Nat) : Int)))) ∧ Below w.heap.size w w') := by
      intro w
      rw [show (L : Int) - 1 = ((L - 1 : Nat) : Int) by omega]
      exact bit_at (L - 1) w (by omega)
    have E0 : ∀ w, (Op.equalIn 10000 54 (.agg (encF (dg ((V % 2 ^ L : Nat) : Int)))) (.agg (encF (dg ((2 ^ (L - 1) : Nat) : Int))))).run Try.prog w = .ok (decide (V % 2 ^ L = 2 ^ (L - 1))) w := by
      intro w
      rw [fixed_eq, words_dec _ _ hRP hpow1]
    have hdbl : 2 ^ L = 2 * 2 ^ (L - 1) := by
      obtain ⟨d, rfl⟩ : ∃ d, L = d + 1 := ⟨L - 1, by omega⟩
      rw [Nat.add_sub_cancel, Nat.pow_succ, Nat.mul_comm]
    have hLK : (L : Int) - 1074 = ((L - K : Nat) : Int) := by omega
    have T2 := hT (V % 2 ^ L) hRP
    have hrne : rne V (2 ^ L) = V / 2 ^ L + (if 2 ^ L < 2 * (V % 2 ^ L) ∨ (2 ^ L = 2 * (V % 2 ^ L) ∧ V / 2 ^ L % 2 = 1) then 1 else 0) := rfl
    have fin : ∀ m2 : Nat, rne V (2 ^ L) = m2 → m2 ≤ 9007199254740992 → min (rung 52 K V) 9218868437227405312 = (((L : Int) - 1074) * 4503599627370496 + (m2 : Int)).toNat := by
      intro m2 h1 h2
      rw [hrung, h1, hLK]
      exact fin_min _ _ (by omega) h2
    by_cases q : V % 2 ^ L = 2 ^ (L - 1)
    · have hr : rne V (2 ^ L) = V / 2 ^ L + V / 2 ^ L % 2 := by
        rw [hrne]
        congr 1
        by_cases o : V / 2 ^ L % 2 = 1
        · rw [if_pos (Or.inr ⟨by omega, o⟩), o]
        · rw [if_neg (by omega)]; omega
      rw [fin _ hr (by omega)]
      have hand := and1 ((V / 2 ^ L : Nat) : Int) (Int.natCast_nonneg _) (by have := hVL; generalize V / 2 ^ L = y at this ⊢; omega)
      have E1 : Hid (∀ w, (Op.equalIn 10000 54 (.agg (encF (dg ((V % 2 ^ L : Nat) : Int)))) (.agg (encF (dg ((2 ^ (L - 1) : Nat) : Int))))).run Try.prog w = .ok true w) := by
        intro w; rw [E0, decide_eq_true q]
      clear E0 hrne fin hrung hr
      generalize V / 2 ^ L = y at *
      refine mag_eq _ _ _ t (L : Int) (y : Int) _ _ w (encF_size _) (encF_size _) (encF_size _) (encF_one _) (encF_one _) (by omega) ht0 hl (by omega) (by omega) T F B N E1 ?_ hand (by omega) (by omega) rfl (by omega) (by omega)
      omega
    · have E1 : Hid (∀ w, (Op.equalIn 10000 54 (.agg (encF (dg ((V % 2 ^ L : Nat) : Int)))) (.agg (encF (dg ((2 ^ (L - 1) : Nat) : Int))))).run Try.prog w = .ok false w) := by
        intro w; rw [E0, decide_eq_false q]
      by_cases q2 : 2 ^ (L - 1) < V % 2 ^ L
      · have hr : rne V (2 ^ L) = V / 2 ^ L + 1 := by
          rw [hrne, if_pos (Or.inl (by omega))]
        rw [fin _ hr (by omega)]
        have ht2 : (if V % 2 ^ L = 0 then -1 else (((V % 2 ^ L).log2 : Nat) : Int)) = (L : Int) - 1 := by
          rw [if_neg (by omega), log2_of (k := L - 1) (by omega) (by rw [show L - 1 + 1 = L by omega]; exact hRlt)]
          omega
        rw [ht2] at T2
        clear E0 hrne fin hrung hr
        generalize V / 2 ^ L = y at *
        refine mag_up _ _ _ t (L : Int) (y : Int) _ _ _ w (encF_size _) (encF_size _) (encF_size _) (encF_one _) (encF_one _) (by omega) ht0 hl (by omega) (by omega) T F B N E1 T2 rfl ?_ (by omega) (by omega) rfl (by omega) (by omega)
        omega
      · have hr : rne V (2 ^ L) = V / 2 ^ L := by
          rw [hrne, if_neg (by omega), Nat.add_zero]
        rw [fin _ hr (by omega)]
        obtain ⟨t2, ht2⟩ : ∃ t2 : Int, (if V % 2 ^ L = 0 then -1 else (((V % 2 ^ L).log2 : Nat) : Int)) = t2 := ⟨_, rfl⟩
        have hb : t2 < (L : Int) - 1 ∧ -1 ≤ t2 := by
          rw [← ht2]
          by_cases z : V % 2 ^ L = 0
          · rw [if_pos z]; omega
          · rw [if_neg z]
            have := (Nat.log2_lt (n := V % 2 ^ L) (k := L - 1) z).2 (by omega)
            omega
        rw [ht2] at T2
        clear E0 hrne fin hrung hr ht2
        generalize V / 2 ^ L = y at *
        exact mag_down _ _ _ t (L : Int) (y : Int) _ _ _ w (encF_size _) (encF_size _) (encF_size _) (encF_one _) (encF_one _) (by omega) ht0 hl (by omega) (by omega) T F B N E1 T2 hb.1 hb.2 rfl (by omega) (by omega) rfl (by omega) (by omega)
end Go.Proofs.Ytgbnabpbheebjaa
