/-
  The reference: Value: walks over the program.
-/
import Derived.Test.YtgbnabpbheebjaaRf
namespace Go.Proofs.Ytgbnabpbheebjaa
open Go.RowKit Tf
attribute [local go_sem] run_bits run_from raw_feq raw_fne raw_flt raw_fgt run_neg

set_option maxHeartbeats 4000000 in
set_option maxRecDepth 100000 in
theorem rv_nil (w : World) : Calls Try.prog 22 #[.pointer none] w fun e w' => e = .returned (.float .f64 0) ∧ w' = w := by
  go_enter Try.func22, Try.ntmps22
  go_wp2
  go_ret
  exact ⟨rfl, rfl⟩
set_option maxHeartbeats 4000000 in
set_option maxRecDepth 100000 in
theorem rv_zero (g : Nat) (w : World) (h0 : w.cell? ⟨g, 136, none⟩ = some (.int .i64 0)) : Calls Try.prog 22 #[.pointer (some ⟨g, 0, none⟩)] w fun e w' => e = .returned (.float .f64 0) ∧ w' = w := by
  go_enter Try.func22, Try.ntmps22
  go_wp2
  go_ret
  exact ⟨rfl, rfl⟩
set_option maxHeartbeats 4000000 in
set_option maxRecDepth 100000 in
theorem rv_nan (g : Nat) (c : Int) (w : World) (h0 : w.cell? ⟨g, 136, none⟩ = some (.int .i64 c)) (hc : 0 < c) (h139 : w.cell? ⟨g, 139, none⟩ = some (.bool true)) : Calls Try.prog 22 #[.pointer (some ⟨g, 0, none⟩)] w fun e w' => e = .returned (.float .f64 9221120237041090561) ∧ w' = w := by
  have RF := hid rawFrom_any
  go_enter Try.func22, Try.ntmps22
  go_wp2_with fail
  refine (RF.out _ _).mono ?_
  rintro e w1 ⟨rfl, rfl⟩
  go_wp2
  go_ret
  exact ⟨rfl, rfl⟩
set_option maxHeartbeats 4000000 in
set_option maxRecDepth 100000 in
theorem rv_both (g : Nat) (c : Int) (w : World) (h0 : w.cell? ⟨g, 136, none⟩ = some (.int .i64 c)) (hc : 0 < c) (h139 : w.cell? ⟨g, 139, none⟩ = some (.bool false)) (h137 : w.cell? ⟨g, 137, none⟩ = some (.bool true)) (h138 : w.cell? ⟨g, 138, none⟩ = some (.bool true)) : Calls Try.prog 22 #[.pointer (some ⟨g, 0, none⟩)] w fun e w' => e = .returned (.float .f64 9221120237041090561) ∧ w' = w := by
  have RF := hid rawFrom_any
  go_enter Try.func22, Try.ntmps22
  go_wp2_with fail
  refine (RF.out _ _).mono ?_
  rintro e w1 ⟨rfl, rfl⟩
  go_wp2
  go_ret
  exact ⟨rfl, rfl⟩
set_option maxHeartbeats 4000000 in
set_option maxRecDepth 100000 in
theorem rv_plus (g : Nat) (c : Int) (w : World) (h0 : w.cell? ⟨g, 136, none⟩ = some (.int .i64 c)) (hc : 0 < c) (h139 : w.cell? ⟨g, 139, none⟩ = some (.bool false)) (h137 : w.cell? ⟨g, 137, none⟩ = some (.bool true)) (h138 : w.cell? ⟨g, 138, none⟩ = some (.bool false)) : Calls Try.prog 22 #[.pointer (some ⟨g, 0, none⟩)] w fun e w' => e = .returned (.float .f64 9218868437227405312) ∧ w' = w := by
  have RF := hid rawFrom_any
  go_enter Try.func22, Try.ntmps22
  go_wp2_with fail
  refine (RF.out _ _).mono ?_
  rintro e w1 ⟨rfl, rfl⟩
  go_wp2
  go_ret
  exact ⟨rfl, rfl⟩
set_option maxHeartbeats 4000000 in
set_option maxRecDepth 100000 in
theorem rv_minus (g : Nat) (c : Int) (w : World) (h0 : w.cell? ⟨g, 136, none⟩ = some (.int .i64 c)) (hc : 0 < c) (h139 : w.cell? ⟨g, 139, none⟩ = some (.bool false)) (h137 : w.cell? ⟨g, 137, none⟩ = some (.bool false)) (h138 : w.cell? ⟨g, 138, none⟩ = some (.bool true)) : Calls Try.prog 22 #[.pointer (some ⟨g, 0, none⟩)] w fun e w' => e = .returned (.float .f64 18442240474082181120) ∧ w' = w := by
  have RF := hid rawFrom_any
  go_enter Try.func22, Try.ntmps22
  go_wp2_with fail
  refine (RF.out _ _).mono ?_
  rintro e w1 ⟨rfl, rfl⟩
  go_wp2
  go_ret
  exact ⟨rfl, rfl⟩
set_option maxHeartbeats 4000000 in
set_option maxRecDepth 100000 in
theorem rv_nought (g : Nat) (c : Int) (w : World) (h0 : w.cell? ⟨g, 136, none⟩ = some (.int .i64 c)) (hc : 0 < c) (h139 : w.cell? ⟨g, 139, none⟩ = some (.bool false)) (h137 : w.cell? ⟨g, 137, none⟩ = some (.bool false)) (h138 : w.cell? ⟨g, 138, none⟩ = some (.bool false)) (h140 : w.cell? ⟨g, 140, none⟩ = some (.bool false)) : Calls Try.prog 22 #[.pointer (some ⟨g, 0, none⟩)] w fun e w' => e = .returned (.float .f64 9223372036854775808) ∧ w' = w := by
  have RF := hid rawFrom_any
  go_enter Try.func22, Try.ntmps22
  go_wp2_with fail
  refine (RF.out _ _).mono ?_
  rintro e w1 ⟨rfl, rfl⟩
  go_wp2
  go_ret
  exact ⟨rfl, rfl⟩

theorem bit_step (M j : Nat) : M / 2 ^ j = 2 * (M / 2 ^ (j + 1)) + M / 2 ^ j % 2 := by
  rw [Nat.pow_succ, ← Nat.div_div_eq_div_mul]; omega
theorem top_small (M n j : Nat) (h : M < 2 ^ (n + 1)) (hj : n ≤ j + 52) : M / 2 ^ (j + 1) < 4503599627370496 := by
  apply Nat.div_lt_of_lt_mul
  have e : (4503599627370496 : Nat) = 2 ^ 52 := by decide
  rw [e, ← Nat.pow_add]
  exact Nat.lt_of_lt_of_le h (Nat.pow_le_pow_right (by decide) (by omega))
theorem low_step (M j : Nat) : (M % 2 ^ j ≠ 0 → decide (M % 2 ^ (j + 1) ≠ 0) = true) ∧ (M % 2 ^ j = 0 → decide (M % 2 ^ (j + 1) ≠ 0) = (((M / 2 ^ j % 2 : Nat) : Int) == 1)) := by
  have e : M % 2 ^ (j + 1) = M % 2 ^ j + 2 ^ j * (M / 2 ^ j % 2) := by rw [Nat.pow_succ, Nat.mod_mul]
  have hp := pow_pos j
  have hlt := Nat.mod_lt (M / 2 ^ j) (show 0 < 2 by decide)
  rw [e]
  generalize M / 2 ^ j % 2 = b at *
  generalize M % 2 ^ j = l at *
  generalize 2 ^ j = p at *
  have hb : b = 0 ∨ b = 1 := by omega
  refine ⟨fun h => decide_eq_true (by omega), fun h => ?_⟩
  rcases hb with rfl | rfl
  · rw [h]; simp
  · rw [h, decide_eq_true (by omega)]; rfl
theorem round_facts (M U : Nat) (hU : 0 < U) : rne M (2 ^ U) = M / 2 ^ U + (if (((M / 2 ^ (U - 1) % 2 : Nat) : Int) == 1) && (decide (M % 2 ^ (U - 1) ≠ 0) || (((M / 2 ^ U : Nat) : Int) % 2 == 1)) then 1 else 0) := by
  obtain ⟨d, rfl⟩ : ∃ d, U = d + 1 := ⟨U - 1, by omega⟩
  rw [Nat.add_sub_cancel]
  have e : M % 2 ^ (d + 1) = M % 2 ^ d + 2 ^ d * (M / 2 ^ d % 2) := by rw [Nat.pow_succ, Nat.mod_mul]
  have hp := pow_pos d
  have hlt := Nat.mod_lt (M / 2 ^ d) (show 0 < 2 by decide)
  have hl := Nat.mod_lt M hp
  have hg : 2 ^ (d + 1) = 2 ^ d * 2 := Nat.pow_succ ..
  unfold rne
  congr 1
  rw [e]
  generalize M / 2 ^ (d + 1) = k at *
  rw [hg]
  generalize M / 2 ^ d % 2 = b at *
  generalize M % 2 ^ d = l at *
  generalize 2 ^ d = p at *
  have hb : b = 0 ∨ b = 1 := by omega
  rcases hb with rfl | rfl
  · rw [if_neg (by omega), if_neg (by simp)]
  · by_cases h1 : l = 0
    · by_cases h2 : k % 2 = 1
      · have h3 : (((k : Nat) : Int) % 2 == 1) = true := by rw [beq_iff_eq]; omega
        rw [if_pos (by omega), h3, if_pos (by simp)]
      · have h3 : (((k : Nat) : Int) % 2 == 1) = false := by rw [beq_eq_false_iff_ne]; omega
        rw [if_neg (by omega), h3, h1, if_neg (by simp)]
    · rw [if_pos (by omega), decide_eq_true h1, if_pos (by simp)]

theorem kfits (M n U : Nat) (h : M < 2 ^ (n + 1)) (hU : n ≤ U + 52) : M / 2 ^ U < 9007199254740992 := by
  apply Nat.div_lt_of_lt_mul
  have e : (9007199254740992 : Nat) = 2 ^ 53 := by decide
  rw [e, ← Nat.pow_add]
  exact Nat.lt_of_lt_of_le h (Nat.pow_le_pow_right (by decide) (by omega))
def TP : Nat := 4352
set_option maxHeartbeats 16000000 in
set_option maxRecDepth 100000 in
theorem rv_sum (g : Nat) (c : Int) (M : Nat) (nb : Bool) (y : Nat) (w : World) (h0 : w.cell? ⟨g, 136, none⟩ = some (.int .i64 c)) (hc : 0 < c) (h139 : w.cell? ⟨g, 139, none⟩ = some (.bool false)) (h137 : w.cell? ⟨g, 137, none⟩ = some (.bool false)) (h138 : w.cell? ⟨g, 138, none⟩ = some (.bool false)) (h140 : w.cell? ⟨g, 140, none⟩ = some (.bool true))
    (CA : Hid (Calls Try.prog 40 #[.pointer (some ⟨g, 0, none⟩)] w fun e w' => e = .returned (.tuple #[.agg (encL (limN M)), .bool nb]) ∧ Hid (Below w.heap.size w w')))
    (HM : Hid (M < 2 ^ TP)) (HZ0 : Hid (M = 0 → y = 0))
    (RES0 : Hid (∀ U : Nat, M ≠ 0 → U = (if M.log2 - 52 < 1102 then 1102 else M.log2 - 52) → ∀ u : Int, u = U → ∀ B : Int, ∀ KK : Int, (u - 1102) * 4503599627370496 + KK = B → 0 ≤ KK → rne M (2 ^ U) = KK.toNat → (9218868437227405312 < B → (nb = false → (9218868437227405312 : Int).toNat = y) ∧ (nb = true → (18442240474082181120 : Int).toNat = y)) ∧ (B ≤ 9218868437227405312 → (nb = false → B.toNat = y) ∧ (nb = true → (B = 0 → (0 : Int).toNat = y) ∧ (0 < B → (B + 9223372036854775808).toNat = y))))) :
    Calls Try.prog 22 #[.pointer (some ⟨g, 0, none⟩)] w fun e w' => e = .returned (.float .f64 y) ∧ Below w.heap.size w w' := by
  have RF := hid rawFrom_any
  go_enter Try.func22, Try.ntmps22
  go_wp2_with fail
  refine CA.out.mono ?_
  rintro e w1 ⟨rfl, b1⟩
  rename_i K2 hK2
  refine hK2 _ _ ?_
  clear hK2 K2
  have sE := encL_size (limN M)
  have oE := encL_one (limN M)
  obtain ⟨E, hE⟩ : ∃ E, encL (limN M) = E := ⟨_, rfl⟩
  obtain ⟨Z, hZ⟩ : ∃ Z, ZL = Z := ⟨_, rfl⟩
  have zl := zero_limbs
  have sZ := ZL_size
  rw [hZ] at zl sZ
  rw [hE] at sE oE ⊢
  refine wpList_plain rfl (fun K2 hK2 => ?_)
  have HK := hid hK2
  clear hK2
  go_wp2
  refine HK.out _ _ ?_
  clear HK K2
  refine wpList_plain rfl (fun K2 hK2 => ?_)
  have HK := hid hK2
  clear hK2
  go_wp2
  refine HK.out _ _ ?_
  clear HK K2
  refine wpList_plain rfl (fun K2 hK2 => ?_)
  have HK := hid hK2
  clear hK2
  go_wp2
  refine HK.out _ _ ?_
  clear HK K2
  refine wpList_alloc_row rfl 57 rfl Z zl ?_
  have q1 : (w1.alloc (.cells Z 57)).heap[w1.heap.size]? = some (.cells Z 57) := heap_alloc_new _ _
  refine wpList_store_row rfl 57 _ _ rfl w1.heap.size E rfl rfl 57 Z q1 (by rw [sE]; exact size_limbs) (by rw [sE, sZ]) oE ?_
  have hrow := hid (setRow_heap _ w1.heap.size _ E _ (0, 0) q1)
  have B9 : Hid (Below w.heap.size w ((w1.alloc (.cells Z 57)).setRow w1.heap.size E)) := by
    have hsz := b1.out.size
    refine (b1.out.alloc hsz (.cells Z 57)).trans ⟨rfl, rfl, rfl, by simp [World.setRow], fun k hk => ?_⟩
    rw [setRow_other _ _ _ _ (by omega)]
  obtain ⟨G, hG⟩ : ∃ G, w1.heap.size = G := ⟨_, rfl⟩
  rw [hG] at hrow B9 ⊢
  obtain ⟨W9, hW⟩ : ∃ W, (w1.alloc (.cells Z 57)).setRow G E = W := ⟨_, rfl⟩
  rw [hW] at hrow B9 ⊢
  rw [← hE] at hrow
  have BT : Hid (∀ k : Nat, k < 4352 → Calls Try.prog 41 #[.pointer (some ⟨G, 0, none⟩), .int .i64 (k : Int)] W9 fun e w' => e = .returned (.int .u64 ((M / 2 ^ k % 2 : Nat) : Int)) ∧ w' = W9) := fun k hk => rbit_at G M k _ W9 hrow.out hk
  refine wpList_plain rfl (fun K2 hK2 => ?_)
  have HK := hid hK2
  clear hK2
  go_wp2
  refine HK.out _ _ ?_
  clear HK K2
  apply wpList_nil
  rename_i K hK
  refine hK _ _ ?_
  clear hK K hW hG hrow q1 sE oE hE hZ zl sZ b1 CA h0 h137 h138 h139 h140
  go_wp2
  go_loopw [5] (fun tv wr => ∃ t : Int, -1 ≤ t ∧ t ≤ 4351 ∧ tv = .int .i64 t ∧ M < 2 ^ (t + 1).toNat ∧ wr = W9) (fun tv _ => (intOf tv + 1).toNat)
  case atStart => exact ⟨4351, by omega, by omega, rfl, by rw [show ((4351 : Int) + 1).toNat = TP from rfl]; exact HM.out, rfl⟩
  case round =>
    obtain ⟨t, t0, t1, rfl, hM, hwr⟩ := hrel
    have hwr2 := hwr.symm
    subst hwr2
    by_cases ht : t < 0
    · have e : t = -1 := by omega
      subst e
      have hy : y = 0 := HZ0.out (by rw [show ((-1 : Int) + 1).toNat = 0 by decide, Nat.pow_zero] at hM; omega)
      subst hy
      clear hM
      go_wp2
      go_ret
      exact ⟨rfl, B9.out⟩
    · obtain ⟨n, rfl⟩ : ∃ n : Nat, t = n := ⟨t.toNat, by omega⟩
      have hb := hid (BT.out n (by omega))
      rw [show ((n : Int) + 1).toNat = n + 1 by omega] at hM
      have hs := bit_step M n
      have hz : M / 2 ^ (n + 1) = 0 := Nat.div_eq_of_lt hM
      rw [hz] at hs
      by_cases hbit : M / 2 ^ n % 2 = 0
      · rw [hbit] at hb
        have hM2 : M < 2 ^ n := by
          rcases Nat.div_eq_zero_iff.1 (show M / 2 ^ n = 0 by omega) with h | h
          · have := pow_pos n; omega
          · exact h
        have HM2 := hid hM2
        clear hs hz hbit hM2 hM
        go_wp2_with fail
        refine hb.out.mono ?_
        rintro e w2 ⟨rfl, hw2⟩
        have HW2 := hid hw2
        clear hw2
        go_wp2
        refine ⟨⟨(n : Int) - 1, by omega, by omega, rfl, by rw [show ((n : Int) - 1 + 1).toNat = n by omega]; exact HM2.out, HW2.out⟩, by simp [intOf]⟩
      · have hb1 : M / 2 ^ n % 2 = 1 := by omega
        rw [hb1] at hb
        have hM0 : M ≠ 0 := by intro e; subst e; simp at hbit
        have hge : 2 ^ n ≤ M := by
          have : 1 ≤ M / 2 ^ n := by omega
          have h2 := (Nat.le_div_iff_mul_le (pow_pos n)).1 this
          omega
        have hlog : M.log2 = n := log2_of hge hM
        have HN : Hid (M < 2 ^ (n + 1)) := hM
        have HM0 := hid hM0
        have HLOG := hid hlog
        have nl : (n : Int) ≤ 4351 := t1
        clear hs hz hbit hb1 hM0 hge hlog hM t0 t1 ht
        by_cases hu : (n : Int) - 52 < 1102
        · go_wp2_with fail
          refine hb.out.mono ?_
          rintro e w2 ⟨rfl, hw2⟩
          have hw3 := hw2.symm
          subst hw3
          go_upto_region 20 with fail
          obtain ⟨U, hUe⟩ : ∃ U : Nat, U = 1102 := ⟨_, rfl⟩
          obtain ⟨u, hue⟩ : ∃ u : Int, (1102 : Int) = u := ⟨_, rfl⟩
          have HUU : Hid (u = U) := by show _ = _; omega
          have RES : Hid (∀ B : Int, ∀ KK : Int, (u - 1102) * 4503599627370496 + KK = B → 0 ≤ KK → rne M (2 ^ U) = KK.toNat → (9218868437227405312 < B → (nb = false → (9218868437227405312 : Int).toNat = y) ∧ (nb = true → (18442240474082181120 : Int).toNat = y)) ∧ (B ≤ 9218868437227405312 → (nb = false → B.toNat = y) ∧ (nb = true → (B = 0 → (0 : Int).toNat = y) ∧ (0 < B → (B + 9223372036854775808).toNat = y)))) := RES0.out U HM0.out (by rw [HLOG.out, if_pos (by omega)]; exact hUe) u HUU.out
          have HK53 : Hid (M / 2 ^ U < 9007199254740992) := kfits M n U HN.out (by omega)
          have u0 : 1102 ≤ u := by omega
          have u1 : u ≤ 4299 := by omega
          have u2 : (n : Int) ≤ u + 52 := by omega
          clear hUe
          rw [hue]
          clear hue
          go_wp2
          go_loopw [7, 8] (fun kv iv wr => ∃ i : Int, -1 ≤ i ∧ i ≤ n ∧ (u ≤ i + 1 ∨ i = n) ∧ iv = .int .i64 i ∧ kv = .int .u64 ((M / 2 ^ (i + 1).toNat : Nat) : Int) ∧ wr = W9) (fun _ iv _ => (intOf iv + 1).toNat)
          case atStart => exact ⟨n, by omega, by omega, Or.inr rfl, rfl, by rw [show ((n : Int) + 1).toNat = n + 1 by omega, Nat.div_eq_of_lt HN.out]; rfl, rfl⟩
          case round =>
            obtain ⟨i, i0, i1, ic, rfl, rfl, hwr⟩ := hrel
            have hwr2 := hwr.symm
            subst hwr2
            by_cases hiu : u ≤ i
            · obtain ⟨j, rfl⟩ : ∃ j : Nat, i = j := ⟨i.toNat, by omega⟩
              have hb := hid (BT.out j (by omega))
              have hs := bit_step M j
              have hk52 : M / 2 ^ (j + 1) < 4503599627370496 := top_small M n j HN.out (by omega)
              rw [show ((j : Int) + 1).toNat = j + 1 by omega]
              have hlt2 := Nat.mod_lt (M / 2 ^ j) (show 0 < 2 by decide)
              obtain ⟨k1, hk1⟩ : ∃ k : Int, ((M / 2 ^ (j + 1) : Nat) : Int) = k := ⟨_, rfl⟩
              obtain ⟨b1, hb1⟩ : ∃ k : Int, ((M / 2 ^ j % 2 : Nat) : Int) = k := ⟨_, rfl⟩
              have kk0 : 0 ≤ k1 := by omega
              have kk1 : k1 < 4503599627370496 := by omega
              have bb0 : 0 ≤ b1 := by omega
              have bb1 : b1 < 2 := by omega
              have hnew : 2 * k1 + b1 = ((M / 2 ^ j : Nat) : Int) := by omega
              rw [hb1] at hb
              rw [hk1]
              have HNEW := hid hnew
              clear hs hk52 hlt2 hk1 hb1 hnew ic
              go_wp2_with fail
              refine hb.out.mono ?_
              rintro e w2 ⟨rfl, hw2⟩
              have HW2 := hid hw2
              clear hw2
              go_wp2
              refine ⟨⟨(j : Int) - 1, by omega, by omega, Or.inl (by omega), rfl, by rw [HNEW.out, show ((j : Int) - 1 + 1).toNat = j by omega], HW2.out⟩, ?_⟩
              simp [intOf] <;> omega
            · have hk : M / 2 ^ (i + 1).toNat = M / 2 ^ U := by
                rcases ic with ic | ic
                · rw [show (i + 1).toNat = U by have := HUU.out; omega]
                · rw [ic, show ((n : Int) + 1).toNat = n + 1 by omega, Nat.div_eq_of_lt HN.out]
                  have : 2 ^ (n + 1) ≤ 2 ^ U := Nat.pow_le_pow_right (by decide) (by have := HUU.out; omega)
                  exact (Nat.div_eq_of_lt (Nat.lt_of_lt_of_le HN.out this)).symm
              rw [hk]
              have hk53 : M / 2 ^ U < 9007199254740992 := HK53.out
              obtain ⟨kk, hkk⟩ : ∃ k : Int, ((M / 2 ^ U : Nat) : Int) = k := ⟨_, rfl⟩
              rw [hkk]
              have kk0 : 0 ≤ kk := by rw [← hkk]; exact Int.natCast_nonneg _
              have kk1 : kk < 9007199254740992 := by rw [← hkk]; have := hk53; generalize M / 2 ^ U = z at *; omega
              have KKK := hid hkk
              clear hk hk53 hkk ic i0
              go_wp2
              go_loopw [9, 10] (fun rv iv wr => ∃ j : Nat, (j : Int) ≤ u - 1 ∧ iv = .int .i64 (j : Nat) ∧ rv = .bool (decide (M % 2 ^ j ≠ 0)) ∧ wr = W9) (fun _ iv _ => (u - intOf iv).toNat)
              case atStart => exact ⟨0, by omega, rfl, by rw [Nat.pow_zero, Nat.mod_one]; first | done | rfl, by first | rfl | trivial⟩
              case round =>
                obtain ⟨j, hj, rfl, rfl, hwr⟩ := hrel
                have hwr2 := hwr.symm
                subst hwr2
                by_cases hju : (j : Int) < u - 1
                · have hs := low_step M j
                  by_cases hz : M % 2 ^ j = 0
                  · rw [decide_eq_false (by simp)]
                    have hb := hid (BT.out j (by omega))
                    have hlt2 := Nat.mod_lt (M / 2 ^ j) (show 0 < 2 by decide)
                    have hx : decide (M % 2 ^ (j + 1) ≠ 0) = (((M / 2 ^ j % 2 : Nat) : Int) == 1) := hs.2 hz
                    obtain ⟨b1, hb1⟩ : ∃ k : Int, ((M / 2 ^ j % 2 : Nat) : Int) = k := ⟨_, rfl⟩
                    rw [hb1] at hb hx
                    have b01 : b1 = 0 ∨ b1 = 1 := by omega
                    clear hs hlt2 hb1
                    rcases b01 with rfl | rfl
                    · have HX : Hid (decide (M % 2 ^ (j + 1) ≠ 0) = false) := by show _ = _; rw [hx]; rfl
                      clear hx
                      go_wp2_with fail
                      refine hb.out.mono ?_
                      rintro e w2 ⟨rfl, hw2⟩
                      have HW2 := hid hw2
                      clear hw2
                      go_wp2
                      refine ⟨⟨j + 1, by omega, by simp, by rw [HX.out], HW2.out⟩, ?_⟩
                      simp [intOf] <;> omega
                    · have HX : Hid (decide (M % 2 ^ (j + 1) ≠ 0) = true) := by show _ = _; rw [hx]; rfl
                      clear hx
                      go_wp2_with fail
                      refine hb.out.mono ?_
                      rintro e w2 ⟨rfl, hw2⟩
                      have HW2 := hid hw2
                      clear hw2
                      go_wp2
                      refine ⟨⟨j + 1, by omega, by simp, by rw [HX.out], HW2.out⟩, ?_⟩
                      simp [intOf] <;> omega
                  · rw [decide_eq_true (show M % 2 ^ j ≠ 0 from hz)]
                    have hx : decide (M % 2 ^ (j + 1) ≠ 0) = true := hs.1 hz
                    have HX := hid hx
                    clear hs hx hz
                    go_wp2
                    refine ⟨⟨j + 1, by omega, by simp, by rw [HX.out], by first | rfl | trivial⟩, ?_⟩
                    simp [intOf] <;> omega
                · have hjU : j = U - 1 := by have := HUU.out; omega
                  have hb := hid (BT.out (U - 1) (by have := HUU.out; omega))
                  have hu1 : ((U - 1 : Nat) : Int) = u - 1 := by have := HUU.out; omega
                  rw [hu1] at hb
                  rw [hjU]
                  have hr := round_facts M U (by have := HUU.out; omega)
                  obtain ⟨b1, hb1⟩ : ∃ k : Int, ((M / 2 ^ (U - 1) % 2 : Nat) : Int) = k := ⟨_, rfl⟩
                  obtain ⟨re, hre⟩ : ∃ b : Bool, decide (M % 2 ^ (U - 1) ≠ 0) = b := ⟨_, rfl⟩
                  have hodd : ((M / 2 ^ U : Nat) : Int) % 2 = kk % 2 := by rw [KKK.out]
                  rw [hb1] at hb hr
                  rw [hre] at hr ⊢
                  have hr2 : rne M (2 ^ U) = M / 2 ^ U + (if b1 == 1 && (re || kk % 2 == 1) then 1 else 0) := by rw [hr]; rw [hodd]
                  have HR2 := hid hr2
                  have hle : ((u : Int) - 1 ≤ (j : Int)) := by omega
                  have b01 : b1 = 0 ∨ b1 = 1 := by omega
                  have jl : decide (((U - 1 : Nat) : Int) < u - 1) = false := decide_eq_false (by omega)
                  rw [hu1]
                  have jl2 : decide (u - 1 < u - 1) = false := by simp
                  clear hr hodd hb1 hre hr2 hjU hu1 hju hj hle jl
                  rcases b01 with rfl | rfl
                  · have HKK : Hid (rne M (2 ^ U) = kk.toNat) := by show _ = _; rw [HR2.out]; simp; have := KKK.out; omega
                    clear HR2
                    go_wp2_with fail
                    refine hb.out.mono ?_
                    rintro e w2 ⟨rfl, hw2⟩
                    have hw3 := hw2.symm
                    subst hw3
                    obtain ⟨B, hB⟩ : ∃ B, (u - 1102) * 4503599627370496 + kk = B := ⟨_, rfl⟩
                    have HB := hid hB
                    have bb0 : 0 ≤ B := by omega
                    have bb1 : B < 18446744073709551616 := by omega
                    have hres := RES.out B kk HB.out (by omega) HKK.out
                    by_cases big : 9218868437227405312 < B
                    · have hres := hid (hres.1 big)
                      cases nb
                      · have hfin := hid (hres.out.1 rfl)
                        go_wp2_with fail
                        refine (RF.out _ _).mono ?_
                        rintro e w2 ⟨rfl, rfl⟩
                        go_wp2
                        go_ret
                        exact ⟨ret_flt (by have h1 := hfin.out; have h2 := HB.out; omega), B9.out⟩
                      · have hfin := hid (hres.out.2 rfl)
                        go_wp2_with fail
                        refine (RF.out _ _).mono ?_
                        rintro e w2 ⟨rfl, rfl⟩
                        go_wp2
                        go_ret
                        exact ⟨ret_flt (by have h1 := hfin.out; have h2 := HB.out; omega), B9.out⟩
                    · have hle : B ≤ 9218868437227405312 := by omega
                      have hres := hid (hres.2 hle)
                      cases nb
                      · have hfin := hid (hres.out.1 rfl)
                        go_wp2_with fail
                        refine (RF.out _ _).mono ?_
                        rintro e w2 ⟨rfl, rfl⟩
                        go_wp2
                        go_ret
                        exact ⟨ret_flt (by have h1 := hfin.out; have h2 := HB.out; omega), B9.out⟩
                      · by_cases bz : B = 0
                        · have hfin := hid ((hres.out.2 rfl).1 bz)
                          subst bz
                          go_wp2_with fail
                          refine (RF.out _ _).mono ?_
                          rintro e w2 ⟨rfl, rfl⟩
                          go_wp2
                          go_ret
                          exact ⟨ret_flt (by have h1 := hfin.out; have h2 := HB.out; omega), B9.out⟩
                        · have bp : 0 < B := by omega
                          have hfin := hid ((hres.out.2 rfl).2 bp)
                          go_wp2_with fail
                          refine (RF.out _ _).mono ?_
                          rintro e w2 ⟨rfl, rfl⟩
                          go_wp2
                          go_ret
                          exact ⟨ret_flt (by have h1 := hfin.out; have h2 := HB.out; omega), B9.out⟩
                  · cases re
                    · by_cases od : kk % 2 = 1
                      · have od2 : (kk % 2 == 1) = true := by rw [od]; rfl
                        have HKK : Hid (rne M (2 ^ U) = (kk + 1).toNat) := by show _ = _; rw [HR2.out, od2]; simp; have := KKK.out; omega
                        clear HR2 od2
                        go_wp2_with fail
                        refine hb.out.mono ?_
                        rintro e w2 ⟨rfl, hw2⟩
                        have hw3 := hw2.symm
                        subst hw3
                        obtain ⟨B, hB⟩ : ∃ B, (u - 1102) * 4503599627370496 + (kk + 1) = B := ⟨_, rfl⟩
                        have HB := hid hB
                        have bb0 : 0 ≤ B := by omega
                        have bb1 : B < 18446744073709551616 := by omega
                        have hres := RES.out B (kk + 1) HB.out (by omega) HKK.out
                        by_cases big : 9218868437227405312 < B
                        · have hres := hid (hres.1 big)
                          cases nb
                          · have hfin := hid (hres.out.1 rfl)
                            go_wp2_with fail
                            refine (RF.out _ _).mono ?_
                            rintro e w2 ⟨rfl, rfl⟩
                            go_wp2
                            go_ret
                            exact ⟨ret_flt (by have h1 := hfin.out; have h2 := HB.out; omega), B9.out⟩
                          · have hfin := hid (hres.out.2 rfl)
                            go_wp2_with fail
                            refine (RF.out _ _).mono ?_
                            rintro e w2 ⟨rfl, rfl⟩
                            go_wp2
                            go_ret
                            exact ⟨ret_flt (by have h1 := hfin.out; have h2 := HB.out; omega), B9.out⟩
                        · have hle : B ≤ 9218868437227405312 := by omega
                          have hres := hid (hres.2 hle)
                          cases nb
                          · have hfin := hid (hres.out.1 rfl)
                            go_wp2_with fail
                            refine (RF.out _ _).mono ?_
                            rintro e w2 ⟨rfl, rfl⟩
                            go_wp2
                            go_ret
                            exact ⟨ret_flt (by have h1 := hfin.out; have h2 := HB.out; omega), B9.out⟩
                          · by_cases bz : B = 0
                            · exact absurd HB.out (by omega)
                            · have bp : 0 < B := by omega
                              have hfin := hid ((hres.out.2 rfl).2 bp)
                              go_wp2_with fail
                              refine (RF.out _ _).mono ?_
                              rintro e w2 ⟨rfl, rfl⟩
                              go_wp2
                              go_ret
                              exact ⟨ret_flt (by have h1 := hfin.out; have h2 := HB.out; omega), B9.out⟩
                      · have od2 : (kk % 2 == 1) = false := by rw [beq_eq_false_iff_ne]; exact od
                        have od3 : kk % 2 = 0 := by omega
                        have HKK : Hid (rne M (2 ^ U) = kk.toNat) := by show _ = _; rw [HR2.out, od2]; simp; have := KKK.out; omega
                        clear HR2 od2 od
                        go_wp2_with fail
                        refine hb.out.mono ?_
                        rintro e w2 ⟨rfl, hw2⟩
                        have hw3 := hw2.symm
                        subst hw3
                        obtain ⟨B, hB⟩ : ∃ B, (u - 1102) * 4503599627370496 + kk = B := ⟨_, rfl⟩
                        have HB := hid hB
                        have bb0 : 0 ≤ B := by omega
                        have bb1 : B < 18446744073709551616 := by omega
                        have hres := RES.out B kk HB.out (by omega) HKK.out
                        by_cases big : 9218868437227405312 < B
                        · have hres := hid (hres.1 big)
                          cases nb
                          · have hfin := hid (hres.out.1 rfl)
                            go_wp2_with fail
                            refine (RF.out _ _).mono ?_
                            rintro e w2 ⟨rfl, rfl⟩
                            go_wp2
                            go_ret
                            exact ⟨ret_flt (by have h1 := hfin.out; have h2 := HB.out; omega), B9.out⟩
                          · have hfin := hid (hres.out.2 rfl)
                            go_wp2_with fail
                            refine (RF.out _ _).mono ?_
                            rintro e w2 ⟨rfl, rfl⟩
                            go_wp2
                            go_ret
                            exact ⟨ret_flt (by have h1 := hfin.out; have h2 := HB.out; omega), B9.out⟩
                        · have hle : B ≤ 9218868437227405312 := by omega
                          have hres := hid (hres.2 hle)
                          cases nb
                          · have hfin := hid (hres.out.1 rfl)
                            go_wp2_with fail
                            refine (RF.out _ _).mono ?_
                            rintro e w2 ⟨rfl, rfl⟩
                            go_wp2
                            go_ret
                            exact ⟨ret_flt (by have h1 := hfin.out; have h2 := HB.out; omega), B9.out⟩
                          · by_cases bz : B = 0
                            · have hfin := hid ((hres.out.2 rfl).1 bz)
                              subst bz
                              go_wp2_with fail
                              refine (RF.out _ _).mono ?_
                              rintro e w2 ⟨rfl, rfl⟩
                              go_wp2
                              go_ret
                              exact ⟨ret_flt (by have h1 := hfin.out; have h2 := HB.out; omega), B9.out⟩
                            · have bp : 0 < B := by omega
                              have hfin := hid ((hres.out.2 rfl).2 bp)
                              go_wp2_with fail
                              refine (RF.out _ _).mono ?_
                              rintro e w2 ⟨rfl, rfl⟩
                              go_wp2
                              go_ret
                              exact ⟨ret_flt (by have h1 := hfin.out; have h2 := HB.out; omega), B9.out⟩
                    · have HKK : Hid (rne M (2 ^ U) = (kk + 1).toNat) := by show _ = _; rw [HR2.out]; simp; have := KKK.out; omega
                      clear HR2
                      go_wp2_with fail
                      refine hb.out.mono ?_
                      rintro e w2 ⟨rfl, hw2⟩
                      have hw3 := hw2.symm
                      subst hw3
                      obtain ⟨B, hB⟩ : ∃ B, (u - 1102) * 4503599627370496 + (kk + 1) = B := ⟨_, rfl⟩
                      have HB := hid hB
                      have bb0 : 0 ≤ B := by omega
                      have bb1 : B < 18446744073709551616 := by omega
                      have hres := RES.out B (kk + 1) HB.out (by omega) HKK.out
                      by_cases big : 9218868437227405312 < B
                      · have hres := hid (hres.1 big)
                        cases nb
                        · have hfin := hid (hres.out.1 rfl)
                          go_wp2_with fail
                          refine (RF.out _ _).mono ?_
                          rintro e w2 ⟨rfl, rfl⟩
                          go_wp2
                          go_ret
                          exact ⟨ret_flt (by have h1 := hfin.out; have h2 := HB.out; omega), B9.out⟩
                        · have hfin := hid (hres.out.2 rfl)
                          go_wp2_with fail
                          refine (RF.out _ _).mono ?_
                          rintro e w2 ⟨rfl, rfl⟩
                          go_wp2
                          go_ret
                          exact ⟨ret_flt (by have h1 := hfin.out; have h2 := HB.out; omega), B9.out⟩
                      · have hle : B ≤ 9218868437227405312 := by omega
                        have hres := hid (hres.2 hle)
                        cases nb
                        · have hfin := hid (hres.out.1 rfl)
                          go_wp2_with fail
                          refine (RF.out _ _).mono ?_
                          rintro e w2 ⟨rfl, rfl⟩
                          go_wp2
                          go_ret
                          exact ⟨ret_flt (by have h1 := hfin.out; have h2 := HB.out; omega), B9.out⟩
                        · by_cases bz : B = 0
                          · exact absurd HB.out (by omega)
                          · have bp : 0 < B := by omega
                            have hfin := hid ((hres.out.2 rfl).2 bp)
                            go_wp2_with fail
                            refine (RF.out _ _).mono ?_
                            rintro e w2 ⟨rfl, rfl⟩
                            go_wp2
                            go_ret
                            exact ⟨ret_flt (by have h1 := hfin.out; have h2 := HB.out; omega), B9.out⟩
        · have hu2 : 1102 ≤ (n : Int) - 52 := by omega
          go_wp2_with fail
          refine hb.out.mono ?_
          rintro e w2 ⟨rfl, hw2⟩
          have hw3 := hw2.symm
          subst hw3
          go_upto_region 20 with fail
          obtain ⟨U, hUe⟩ : ∃ U : Nat, U = n - 52 := ⟨_, rfl⟩
          obtain ⟨u, hue⟩ : ∃ u : Int, (n : Int) - 52 = u := ⟨_, rfl⟩
          have HUU : Hid (u = U) := by show _ = _; omega
          have RES : Hid (∀ B : Int, ∀ KK : Int, (u - 1102) * 4503599627370496 + KK = B → 0 ≤ KK → rne M (2 ^ U) = KK.toNat → (9218868437227405312 < B → (nb = false → (9218868437227405312 : Int).toNat = y) ∧ (nb = true → (18442240474082181120 : Int).toNat = y)) ∧ (B ≤ 9218868437227405312 → (nb = false → B.toNat = y) ∧ (nb = true → (B = 0 → (0 : Int).toNat = y) ∧ (0 < B → (B + 9223372036854775808).toNat = y)))) := RES0.out U HM0.out (by rw [HLOG.out, if_neg (by omega)]; exact hUe) u HUU.out
          have HK53 : Hid (M / 2 ^ U < 9007199254740992) := kfits M n U HN.out (by omega)
          have u0 : 1102 ≤ u := by omega
          have u1 : u ≤ 4299 := by omega
          have u2 : (n : Int) ≤ u + 52 := by omega
          clear hUe
          rw [hue]
          clear hu2 hue
          go_wp2
          go_loopw [7, 8] (fun kv iv wr => ∃ i : Int, -1 ≤ i ∧ i ≤ n ∧ (u ≤ i + 1 ∨ i = n) ∧ iv = .int .i64 i ∧ kv = .int .u64 ((M / 2 ^ (i + 1).toNat : Nat) : Int) ∧ wr = W9) (fun _ iv _ => (intOf iv + 1).toNat)
          case atStart => exact ⟨n, by omega, by omega, Or.inr rfl, rfl, by rw [show ((n : Int) + 1).toNat = n + 1 by omega, Nat.div_eq_of_lt HN.out]; rfl, rfl⟩
          case round =>
            obtain ⟨i, i0, i1, ic, rfl, rfl, hwr⟩ := hrel
            have hwr2 := hwr.symm
            subst hwr2
            by_cases hiu : u ≤ i
            · obtain ⟨j, rfl⟩ : ∃ j : Nat, i = j := ⟨i.toNat, by omega⟩
              have hb := hid (BT.out j (by omega))
              have hs := bit_step M j
              have hk52 : M / 2 ^ (j + 1) < 4503599627370496 := top_small M n j HN.out (by omega)
              rw [show ((j : Int) + 1).toNat = j + 1 by omega]
              have hlt2 := Nat.mod_lt (M / 2 ^ j) (show 0 < 2 by decide)
              obtain ⟨k1, hk1⟩ : ∃ k : Int, ((M / 2 ^ (j + 1) : Nat) : Int) = k := ⟨_, rfl⟩
              obtain ⟨b1, hb1⟩ : ∃ k : Int, ((M / 2 ^ j % 2 : Nat) : Int) = k := ⟨_, rfl⟩
              have kk0 : 0 ≤ k1 := by omega
              have kk1 : k1 < 4503599627370496 := by omega
              have bb0 : 0 ≤ b1 := by omega
              have bb1 : b1 < 2 := by omega
              have hnew : 2 * k1 + b1 = ((M / 2 ^ j : Nat) : Int) := by omega
              rw [hb1] at hb
              rw [hk1]
              have HNEW := hid hnew
              clear hs hk52 hlt2 hk1 hb1 hnew ic
              go_wp2_with fail
              refine hb.out.mono ?_
              rintro e w2 ⟨rfl, hw2⟩
              have HW2 := hid hw2
              clear hw2
              go_wp2
              refine ⟨⟨(j : Int) - 1, by omega, by omega, Or.inl (by omega), rfl, by rw [HNEW.out, show ((j : Int) - 1 + 1).toNat = j by omega], HW2.out⟩, ?_⟩
              simp [intOf] <;> omega
            · have hk : M / 2 ^ (i + 1).toNat = M / 2 ^ U := by
                rcases ic with ic | ic
                · rw [show (i + 1).toNat = U by have := HUU.out; omega]
                · rw [ic, show ((n : Int) + 1).toNat = n + 1 by omega, Nat.div_eq_of_lt HN.out]
                  have : 2 ^ (n + 1) ≤ 2 ^ U := Nat.pow_le_pow_right (by decide) (by have := HUU.out; omega)
                  exact (Nat.div_eq_of_lt (Nat.lt_of_lt_of_le HN.out this)).symm
              rw [hk]
              have hk53 : M / 2 ^ U < 9007199254740992 := HK53.out
              obtain ⟨kk, hkk⟩ : ∃ k : Int, ((M / 2 ^ U : Nat) : Int) = k := ⟨_, rfl⟩
              rw [hkk]
              have kk0 : 0 ≤ kk := by rw [← hkk]; exact Int.natCast_nonneg _
              have kk1 : kk < 9007199254740992 := by rw [← hkk]; have := hk53; generalize M / 2 ^ U = z at *; omega
              have KKK := hid hkk
              clear hk hk53 hkk ic i0
              go_wp2
              go_loopw [9, 10] (fun rv iv wr => ∃ j : Nat, (j : Int) ≤ u - 1 ∧ iv = .int .i64 (j : Nat) ∧ rv = .bool (decide (M % 2 ^ j ≠ 0)) ∧ wr = W9) (fun _ iv _ => (u - intOf iv).toNat)
              case atStart => exact ⟨0, by omega, rfl, by rw [Nat.pow_zero, Nat.mod_one]; first | done | rfl, by first | rfl | trivial⟩
              case round =>
                obtain ⟨j, hj, rfl, rfl, hwr⟩ := hrel
                have hwr2 := hwr.symm
                subst hwr2
                by_cases hju : (j : Int) < u - 1
                · have hs := low_step M j
                  by_cases hz : M % 2 ^ j = 0
                  · rw [decide_eq_false (by simp)]
                    have hb := hid (BT.out j (by omega))
                    have hlt2 := Nat.mod_lt (M / 2 ^ j) (show 0 < 2 by decide)
                    have hx : decide (M % 2 ^ (j + 1) ≠ 0) = (((M / 2 ^ j % 2 : Nat) : Int) == 1) := hs.2 hz
                    obtain ⟨b1, hb1⟩ : ∃ k : Int, ((M / 2 ^ j % 2 : Nat) : Int) = k := ⟨_, rfl⟩
                    rw [hb1] at hb hx
                    have b01 : b1 = 0 ∨ b1 = 1 := by omega
                    clear hs hlt2 hb1
                    rcases b01 with rfl | rfl
                    · have HX : Hid (decide (M % 2 ^ (j + 1) ≠ 0) = false) := by show _ = _; rw [hx]; rfl
                      clear hx
                      go_wp2_with fail
                      refine hb.out.mono ?_
                      rintro e w2 ⟨rfl, hw2⟩
                      have HW2 := hid hw2
                      clear hw2
                      go_wp2
                      refine ⟨⟨j + 1, by omega, by simp, by rw [HX.out], HW2.out⟩, ?_⟩
                      simp [intOf] <;> omega
                    · have HX : Hid (decide (M % 2 ^ (j + 1) ≠ 0) = true) := by show _ = _; rw [hx]; rfl
                      clear hx
                      go_wp2_with fail
                      refine hb.out.mono ?_
                      rintro e w2 ⟨rfl, hw2⟩
                      have HW2 := hid hw2
                      clear hw2
                      go_wp2
                      refine ⟨⟨j + 1, by omega, by simp, by rw [HX.out], HW2.out⟩, ?_⟩
                      simp [intOf] <;> omega
                  · rw [decide_eq_true (show M % 2 ^ j ≠ 0 from hz)]
                    have hx : decide (M % 2 ^ (j + 1) ≠ 0) = true := hs.1 hz
                    have HX := hid hx
                    clear hs hx hz
                    go_wp2
                    refine ⟨⟨j + 1, by omega, by simp, by rw [HX.out], by first | rfl | trivial⟩, ?_⟩
                    simp [intOf] <;> omega
                · have hjU : j = U - 1 := by have := HUU.out; omega
                  have hb := hid (BT.out (U - 1) (by have := HUU.out; omega))
                  have hu1 : ((U - 1 : Nat) : Int) = u - 1 := by have := HUU.out; omega
                  rw [hu1] at hb
                  rw [hjU]
                  have hr := round_facts M U (by have := HUU.out; omega)
                  obtain ⟨b1, hb1⟩ : ∃ k : Int, ((M / 2 ^ (U - 1) % 2 : Nat) : Int) = k := ⟨_, rfl⟩
                  obtain ⟨re, hre⟩ : ∃ b : Bool, decide (M % 2 ^ (U - 1) ≠ 0) = b := ⟨_, rfl⟩
                  have hodd : ((M / 2 ^ U : Nat) : Int) % 2 = kk % 2 := by rw [KKK.out]
                  rw [hb1] at hb hr
                  rw [hre] at hr ⊢
                  have hr2 : rne M (2 ^ U) = M / 2 ^ U + (if b1 == 1 && (re || kk % 2 == 1) then 1 else 0) := by rw [hr]; rw [hodd]
                  have HR2 := hid hr2
                  have hle : ((u : Int) - 1 ≤ (j : Int)) := by omega
                  have b01 : b1 = 0 ∨ b1 = 1 := by omega
                  have jl : decide (((U - 1 : Nat) : Int) < u - 1) = false := decide_eq_false (by omega)
                  rw [hu1]
                  have jl2 : decide (u - 1 < u - 1) = false := by simp
                  clear hr hodd hb1 hre hr2 hjU hu1 hju hj hle jl
                  rcases b01 with rfl | rfl
                  · have HKK : Hid (rne M (2 ^ U) = kk.toNat) := by show _ = _; rw [HR2.out]; simp; have := KKK.out; omega
                    clear HR2
                    go_wp2_with fail
                    refine hb.out.mono ?_
                    rintro e w2 ⟨rfl, hw2⟩
                    have hw3 := hw2.symm
                    subst hw3
                    obtain ⟨B, hB⟩ : ∃ B, (u - 1102) * 4503599627370496 + kk = B := ⟨_, rfl⟩
                    have HB := hid hB
                    have bb0 : 0 ≤ B := by omega
                    have bb1 : B < 18446744073709551616 := by omega
                    have hres := RES.out B kk HB.out (by omega) HKK.out
                    by_cases big : 9218868437227405312 < B
                    · have hres := hid (hres.1 big)
                      cases nb
                      · have hfin := hid (hres.out.1 rfl)
                        go_wp2_with fail
                        refine (RF.out _ _).mono ?_
                        rintro e w2 ⟨rfl, rfl⟩
                        go_wp2
                        go_ret
                        exact ⟨ret_flt (by have h1 := hfin.out; have h2 := HB.out; omega), B9.out⟩
                      · have hfin := hid (hres.out.2 rfl)
                        go_wp2_with fail
                        refine (RF.out _ _).mono ?_
                        rintro e w2 ⟨rfl, rfl⟩
                        go_wp2
                        go_ret
                        exact ⟨ret_flt (by have h1 := hfin.out; have h2 := HB.out; omega), B9.out⟩
                    · have hle : B ≤ 9218868437227405312 := by omega
                      have hres := hid (hres.2 hle)
                      cases nb
                      · have hfin := hid (hres.out.1 rfl)
                        go_wp2_with fail
                        refine (RF.out _ _).mono ?_
                        rintro e w2 ⟨rfl, rfl⟩
                        go_wp2
                        go_ret
                        exact ⟨ret_flt (by have h1 := hfin.out; have h2 := HB.out; omega), B9.out⟩
                      · by_cases bz : B = 0
                        · have hfin := hid ((hres.out.2 rfl).1 bz)
                          subst bz
                          go_wp2_with fail
                          refine (RF.out _ _).mono ?_
                          rintro e w2 ⟨rfl, rfl⟩
                          go_wp2
                          go_ret
                          exact ⟨ret_flt (by have h1 := hfin.out; have h2 := HB.out; omega), B9.out⟩
                        · have bp : 0 < B := by omega
                          have hfin := hid ((hres.out.2 rfl).2 bp)
                          go_wp2_with fail
                          refine (RF.out _ _).mono ?_
                          rintro e w2 ⟨rfl, rfl⟩
                          go_wp2
                          go_ret
                          exact ⟨ret_flt (by have h1 := hfin.out; have h2 := HB.out; omega), B9.out⟩
                  · cases re
                    · by_cases od : kk % 2 = 1
                      · have od2 : (kk % 2 == 1) = true := by rw [od]; rfl
                        have HKK : Hid (rne M (2 ^ U) = (kk + 1).toNat) := by show _ = _; rw [HR2.out, od2]; simp; have := KKK.out; omega
                        clear HR2 od2
                        go_wp2_with fail
                        refine hb.out.mono ?_
                        rintro e w2 ⟨rfl, hw2⟩
                        have hw3 := hw2.symm
                        subst hw3
                        obtain ⟨B, hB⟩ : ∃ B, (u - 1102) * 4503599627370496 + (kk + 1) = B := ⟨_, rfl⟩
                        have HB := hid hB
                        have bb0 : 0 ≤ B := by omega
                        have bb1 : B < 18446744073709551616 := by omega
                        have hres := RES.out B (kk + 1) HB.out (by omega) HKK.out
                        by_cases big : 9218868437227405312 < B
                        · have hres := hid (hres.1 big)
                          cases nb
                          · have hfin := hid (hres.out.1 rfl)
                            go_wp2_with fail
                            refine (RF.out _ _).mono ?_
                            rintro e w2 ⟨rfl, rfl⟩
                            go_wp2
                            go_ret
                            exact ⟨ret_flt (by have h1 := hfin.out; have h2 := HB.out; omega), B9.out⟩
                          · have hfin := hid (hres.out.2 rfl)
                            go_wp2_with fail
                            refine (RF.out _ _).mono ?_
                            rintro e w2 ⟨rfl, rfl⟩
                            go_wp2
                            go_ret
                            exact ⟨ret_flt (by have h1 := hfin.out; have h2 := HB.out; omega), B9.out⟩
                        · have hle : B ≤ 9218868437227405312 := by omega
                          have hres := hid (hres.2 hle)
                          cases nb
                          · have hfin := hid (hres.out.1 rfl)
                            go_wp2_with fail
                            refine (RF.out _ _).mono ?_
                            rintro e w2 ⟨rfl, rfl⟩
                            go_wp2
                            go_ret
                            exact ⟨ret_flt (by have h1 := hfin.out; have h2 := HB.out; omega), B9.out⟩
                          · by_cases bz : B = 0
                            · exact absurd HB.out (by omega)
                            · have bp : 0 < B := by omega
                              have hfin := hid ((hres.out.2 rfl).2 bp)
                              go_wp2_with fail
                              refine (RF.out _ _).mono ?_
                              rintro e w2 ⟨rfl, rfl⟩
                              go_wp2
                              go_ret
                              exact ⟨ret_flt (by have h1 := hfin.out; have h2 := HB.out; omega), B9.out⟩
                      · have od2 : (kk % 2 == 1) = false := by rw [beq_eq_false_iff_ne]; exact od
                        have od3 : kk % 2 = 0 := by omega
                        have HKK : Hid (rne M (2 ^ U) = kk.toNat) := by show _ = _; rw [HR2.out, od2]; simp; have := KKK.out; omega
                        clear HR2 od2 od
                        go_wp2_with fail
                        refine hb.out.mono ?_
                        rintro e w2 ⟨rfl, hw2⟩
                        have hw3 := hw2.symm
                        subst hw3
                        obtain ⟨B, hB⟩ : ∃ B, (u - 1102) * 4503599627370496 + kk = B := ⟨_, rfl⟩
                        have HB := hid hB
                        have bb0 : 0 ≤ B := by omega
                        have bb1 : B < 18446744073709551616 := by omega
                        have hres := RES.out B kk HB.out (by omega) HKK.out
                        by_cases big : 9218868437227405312 < B
                        · have hres := hid (hres.1 big)
                          cases nb
                          · have hfin := hid (hres.out.1 rfl)
                            go_wp2_with fail
                            refine (RF.out _ _).mono ?_
                            rintro e w2 ⟨rfl, rfl⟩
                            go_wp2
                            go_ret
                            exact ⟨ret_flt (by have h1 := hfin.out; have h2 := HB.out; omega), B9.out⟩
                          · have hfin := hid (hres.out.2 rfl)
                            go_wp2_with fail
                            refine (RF.out _ _).mono ?_
                            rintro e w2 ⟨rfl, rfl⟩
                            go_wp2
                            go_ret
                            exact ⟨ret_flt (by have h1 := hfin.out; have h2 := HB.out; omega), B9.out⟩
                        · have hle : B ≤ 9218868437227405312 := by omega
                          have hres := hid (hres.2 hle)
                          cases nb
                          · have hfin := hid (hres.out.1 rfl)
                            go_wp2_with fail
                            refine (RF.out _ _).mono ?_
                            rintro e w2 ⟨rfl, rfl⟩
                            go_wp2
                            go_ret
                            exact ⟨ret_flt (by have h1 := hfin.out; have h2 := HB.out; omega), B9.out⟩
                          · by_cases bz : B = 0
                            · have hfin := hid ((hres.out.2 rfl).1 bz)
                              subst bz
                              go_wp2_with fail
                              refine (RF.out _ _).mono ?_
                              rintro e w2 ⟨rfl, rfl⟩
                              go_wp2
                              go_ret
                              exact ⟨ret_flt (by have h1 := hfin.out; have h2 := HB.out; omega), B9.out⟩
                            · have bp : 0 < B := by omega
                              have hfin := hid ((hres.out.2 rfl).2 bp)
                              go_wp2_with fail
                              refine (RF.out _ _).mono ?_
                              rintro e w2 ⟨rfl, rfl⟩
                              go_wp2
                              go_ret
                              exact ⟨ret_flt (by have h1 := hfin.out; have h2 := HB.out; omega), B9.out⟩
                    · have HKK : Hid (rne M (2 ^ U) = (kk + 1).toNat) := by show _ = _; rw [HR2.out]; simp; have := KKK.out; omega
                      clear HR2
                      go_wp2_with fail
                      refine hb.out.mono ?_
                      rintro e w2 ⟨rfl, hw2⟩
                      have hw3 := hw2.symm
                      subst hw3
                      obtain ⟨B, hB⟩ : ∃ B, (u - 1102) * 4503599627370496 + (kk + 1) = B := ⟨_, rfl⟩
                      have HB := hid hB
                      have bb0 : 0 ≤ B := by omega
                      have bb1 : B < 18446744073709551616 := by omega
                      have hres := RES.out B (kk + 1) HB.out (by omega) HKK.out
                      by_cases big : 9218868437227405312 < B
                      · have hres := hid (hres.1 big)
                        cases nb
                        · have hfin := hid (hres.out.1 rfl)
                          go_wp2_with fail
                          refine (RF.out _ _).mono ?_
                          rintro e w2 ⟨rfl, rfl⟩
                          go_wp2
                          go_ret
                          exact ⟨ret_flt (by have h1 := hfin.out; have h2 := HB.out; omega), B9.out⟩
                        · have hfin := hid (hres.out.2 rfl)
                          go_wp2_with fail
                          refine (RF.out _ _).mono ?_
                          rintro e w2 ⟨rfl, rfl⟩
                          go_wp2
                          go_ret
                          exact ⟨ret_flt (by have h1 := hfin.out; have h2 := HB.out; omega), B9.out⟩
                      · have hle : B ≤ 9218868437227405312 := by omega
                        have hres := hid (hres.2 hle)
                        cases nb
                        · have hfin := hid (hres.out.1 rfl)
                          go_wp2_with fail
                          refine (RF.out _ _).mono ?_
                          rintro e w2 ⟨rfl, rfl⟩
                          go_wp2
                          go_ret
                          exact ⟨ret_flt (by have h1 := hfin.out; have h2 := HB.out; omega), B9.out⟩
                        · by_cases bz : B = 0
                          · exact absurd HB.out (by omega)
                          · have bp : 0 < B := by omega
                            have hfin := hid ((hres.out.2 rfl).2 bp)
                            go_wp2_with fail
                            refine (RF.out _ _).mono ?_
                            rintro e w2 ⟨rfl, rfl⟩
                            go_wp2
                            go_ret
                            exact ⟨ret_flt (by have h1 := hfin.out; have h2 := HB.out; omega), B9.out⟩
end Go.Proofs.Ytgbnabpbheebjaa
