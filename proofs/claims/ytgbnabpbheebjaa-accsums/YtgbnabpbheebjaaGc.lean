/-
  The addition of a number, word by word: a walk over the program.
-/
import Derived.Test.YtgbnabpbheebjaaGb
namespace Go.Proofs.Ytgbnabpbheebjaa
open Go.RowKit Tf
attribute [local go_sem] run_bits run_from raw_feq raw_fne raw_flt raw_fgt run_neg

/-- the words so far: new ones below a place -/
def mix (n : Nat) (f g : Nat → Int) : Nat → Int := fun j => if j < n then f j else g j
theorem mix_step (n : Nat) (f g : Nat → Int) : upd (mix n f g) n (f n) = mix (n + 1) f g := by
  funext j
  unfold upd mix
  by_cases c : j = n
  · subst c; rw [if_pos rfl, if_pos (by omega)]
  · rw [if_neg c]
    by_cases c2 : j < n
    · rw [if_pos c2, if_pos (by omega)]
    · rw [if_neg c2, if_neg (by omega)]

theorem div_up (M : Int) (i j : Nat) (h : M / ((2 ^ (64 * i) : Nat) : Int) = 0) (hj : i ≤ j) : M / ((2 ^ (64 * j) : Nat) : Int) = 0 := by
  obtain ⟨d, rfl⟩ : ∃ d, j = i + d := ⟨j - i, by omega⟩
  rw [p64_add, ← Int.ediv_ediv_of_nonneg (Int.le_of_lt (p64_pos i)), h]; simp

set_option maxHeartbeats 2000000 in
theorem add_go (g o h p n i : Nat) (cap : Nat) (T : TypeId) (C : Array Value) (off : Bool) (tv : Int) (V N U M R : Int) (w : World)
    (hg : Hid (w.heap[g]? = some (.cells (enW C o (dg V)) T))) (ho : Hid (o + 66 ≤ C.size))
    (htv : tv = if off then 18446744073709551615 else 0)
    (hx : Hid (∀ j, bits .xor .u64 (dg V j) tv = dg U j)) (hy : Hid (∀ j, bits .xor .u64 (dg (U + M) j) tv = dg R j))
    (hM : Hid (∀ k, k < n → dg M (i + k) = dg N k)) (hM0 : Hid (M / ((2 ^ (64 * (i + n)) : Nat) : Int) = 0)) (hMi : Hid (cy U M i = 0)) (hRV : Hid (∀ j, dg (U + M) j = dg U j → dg R j = dg V j))
    (hlow : Hid (∀ j, j < i → dg R j = dg V j))
    (hin : Hid (i + n ≤ 66))
    (hn : Hid (∀ wr k, k < n → Only g w wr → wr.heap[g]? = some (.cells (enW C o (mix (i + k) (dg R) (dg V))) T) → wr.cell? ⟨h, p + k, none⟩ = some (.int .u64 (dg N k)))) :
    Calls Try.prog 33 #[.pointer (some ⟨g, o, none⟩), .slice (some ⟨h, p, none⟩) n cap, .int .i64 i, .bool off] w fun e w' => e = .returned (.tuple #[]) ∧
      Hid (w'.heap[g]? = some (.cells (enW C o (dg R)) T)) ∧ Hid (Only g w w') := by
  go_enter Try.func33, Try.ntmps33
  cases off
  · simp only [Bool.false_eq_true, if_false] at htv
    subst htv
    go_wp2
    go_loopw [2, 9, 19] (fun iv cv kv wr => ∃ k : Nat, k ≤ n ∧ iv = .int .i64 ((i + k : Nat) : Int) ∧ cv = .int .u64 (cy U M (i + k)) ∧ kv = .int .i64 (k : Nat) ∧ wr.heap[g]? = some (.cells (enW C o (mix (i + k) (dg R) (dg V))) T) ∧ Only g w wr) (fun _ _ kv _ => n - (intOf kv).toNat)
    case atStart =>
      refine ⟨0, by omega, by simp, by rw [Nat.add_zero, hMi.out], rfl, ?_, Only.refl _ _⟩
      rw [hg.out]
      have : enW C o (dg V) = enW C o (mix (i + 0) (dg R) (dg V)) := enW_congr _ _ _ _ (fun j _ => by
        unfold mix
        split
        · rename_i hj; exact (hlow.out j hj).symm
        · rfl) ho.out
      rw [this]
    case round =>
      obtain ⟨k, hk, rfl, rfl, rfl, r1, hon⟩ := hrel
      have hin' := hin.out
      by_cases hlt : k < n
      · have cg := row_cell g o (i + k) C _ T wr r1 (by omega) ho.out
        have fg := row_frozen g (o + (i + k)) _ T wr r1
        have cn := hn.out wr k hlt hon r1
        have em : mix (i + k) (dg R) (dg V) (i + k) = dg V (i + k) := by unfold mix; rw [if_neg (by omega)]
        rw [em] at cg
        have x1 := hx.out (i + k)
        have y1 := hy.out (i + k)
        obtain ⟨s1, s2⟩ := cy_step U M (i + k)
        rw [hM.out k hlt] at s1 s2
        have A := run_add64 (dg U (i + k)) (dg N k) (cy U M (i + k)) _ _ (dg_nonneg _ _) (dg_nonneg _ _) (cy_bound U M (i + k)).1 (cy_bound U M (i + k)).2 s1 s2
        have R1 := hid r1
        have HO := hid hon
        have HL := hid hlt
        obtain ⟨v, hv⟩ : ∃ v, dg V (i + k) = v := ⟨_, rfl⟩
        obtain ⟨u, hu⟩ : ∃ v, dg U (i + k) = v := ⟨_, rfl⟩
        obtain ⟨q, hq⟩ : ∃ v, dg N k = v := ⟨_, rfl⟩
        obtain ⟨c, hc⟩ : ∃ v, cy U M (i + k) = v := ⟨_, rfl⟩
        obtain ⟨c2, hc2⟩ : ∃ v, cy U M (i + k + 1) = v := ⟨_, rfl⟩
        obtain ⟨s, hs⟩ : ∃ v, dg (U + M) (i + k) = v := ⟨_, rfl⟩
        obtain ⟨r, hr⟩ : ∃ v, dg R (i + k) = v := ⟨_, rfl⟩
        rw [hv] at cg x1
        rw [hu] at x1 A
        rw [hq] at cn A
        rw [hc] at A ⊢
        rw [hc2] at A
        rw [hs] at y1 A
        rw [hr] at y1
        have HR := hid hr
        have HC2 := hid hc2
        have il : ((i + k : Nat) : Int) < 66 := by omega
        have kl : ((k : Nat) : Int) < n := by omega
        have k66 : ((k : Nat) : Int) < 66 := by omega
        obtain ⟨ik, hik⟩ : ∃ ik, i + k = ik := ⟨_, rfl⟩
        have HO2 := ho
        rw [hik] at cg fg R1 il HR HC2 ⊢
        have HIK := hid hik
        clear s1 s2 hv hu hq hc hc2 hs hr r1 hon hlt hk em hin' hik hg hx hy hM hM0 hMi hRV hlow hn
        go_wp2
        have hik := HIK.out
        refine ⟨⟨k + 1, HL.out, by rw [← hik]; simp; omega, by rw [← HC2.out, ← hik, Nat.add_assoc], by simp, ?_, HO.out.trans (only_set _ _ _ _)⟩, by have := HL.out; simp [intOf]; omega⟩
        rw [row_set _ _ _ _ _ _ _ _ R1.out (by omega) HO2.out, ← HR.out, mix_step, ← hik, Nat.add_assoc]
      · have hkn : k = n := by omega
        subst hkn
        have kl : decide (((k : Nat) : Int) < (k : Nat)) = false := by simp
        have R1 := hid r1
        have HO := hid hon
        obtain ⟨c, hc⟩ : ∃ v, cy U M (i + k) = v := ⟨_, rfl⟩
        obtain ⟨ik, hik⟩ : ∃ ik, i + k = ik := ⟨_, rfl⟩
        rw [hc]
        rw [hik] at R1 hc ⊢
        have HC := hid hc
        have HIK := hid hik
        clear r1 hon hlt hk hin' hc hik hg hM hMi hlow hn
        go_wp2
        go_loopw [2, 9] (fun iv cv wr => ∃ j : Nat, i + k ≤ j ∧ j ≤ 66 ∧ iv = .int .i64 ((j : Nat) : Int) ∧ cv = .int .u64 (cy U M j) ∧ wr.heap[g]? = some (.cells (enW C o (mix j (dg R) (dg V))) T) ∧ Only g w wr) (fun iv _ _ => 66 - (intOf iv).toNat)
        case atStart =>
          exact ⟨ik, by rw [HIK.out]; omega, by have := hin.out; have := HIK.out; omega, rfl, by rw [HC.out], R1.out, HO.out⟩
        case round =>
          clear R1 HO HC HIK
          obtain ⟨j, hj1, hj, rfl, rfl, r1, hon⟩ := hrel
          obtain ⟨c0, c1⟩ := cy_bound U M j
          have hMj := div_up M _ j hM0.out hj1
          by_cases hc : cy U M j = 0
          · have hfin : enW C o (mix j (dg R) (dg V)) = enW C o (dg R) := enW_congr _ _ _ _ (fun q _ => by
              unfold mix
              split
              · rfl
              · exact (hRV.out q (dg_rest U M j q hc hMj (by omega))).symm) ho.out
            rw [hfin] at r1
            have R1 := hid r1
            have HO := hid hon
            rw [hc]
            clear r1 hon hfin hMj hc hx hy hM0 hRV c0 c1 hj1
            go_wp2
            go_end0
            exact ⟨rfl, R1, HO⟩
          · by_cases hlt : j < 66
            · have cg := row_cell g o j C _ T wr r1 hlt ho.out
              have fg := row_frozen g (o + j) _ T wr r1
              have em : mix j (dg R) (dg V) j = dg V j := by unfold mix; rw [if_neg (by omega)]
              rw [em] at cg
              have x1 := hx.out j
              have y1 := hy.out j
              obtain ⟨s1, s2⟩ := cy_step U M j
              rw [dg_zero_of M j hMj] at s1 s2
              have A := run_add64 (dg U j) 0 (cy U M j) _ _ (dg_nonneg _ _) (by omega) c0 c1 s1 s2
              have R1 := hid r1
              have HO := hid hon
              have HL := hid hlt
              have hc1 : cy U M j = 1 := by omega
              obtain ⟨v, hv⟩ : ∃ v, dg V j = v := ⟨_, rfl⟩
              obtain ⟨u, hu⟩ : ∃ v, dg U j = v := ⟨_, rfl⟩
              obtain ⟨c2, hc2⟩ : ∃ v, cy U M (j + 1) = v := ⟨_, rfl⟩
              obtain ⟨s, hs⟩ : ∃ v, dg (U + M) j = v := ⟨_, rfl⟩
              obtain ⟨r, hr⟩ : ∃ v, dg R j = v := ⟨_, rfl⟩
              rw [hv] at cg x1
              rw [hu] at x1 A
              rw [hc1] at A ⊢
              rw [hc2] at A
              rw [hs] at y1 A
              rw [hr] at y1
              have HR := hid hr
              have HC2 := hid hc2
              have HJ := hid hj1
              have il : ((j : Nat) : Int) < 66 := by omega
              have HO2 := ho
              clear s1 s2 hv hu hc hc1 hc2 hs hr r1 hon hlt hj em hx hy hM0 hRV hMj c0 c1 hj1
              go_wp2
              have hl := HL.out
              refine ⟨⟨j + 1, by have := HJ.out; omega, by omega, by simp, by rw [HC2.out], ?_, HO.out.trans (only_set _ _ _ _)⟩, by simp [intOf]; omega⟩
              rw [row_set _ _ _ _ _ _ _ _ R1.out hl HO2.out, ← HR.out, mix_step]
            · have hj66 : j = 66 := by omega
              subst hj66
              have hc1 : cy U M 66 = 1 := by omega
              have hfin : enW C o (mix 66 (dg R) (dg V)) = enW C o (dg R) := enW_congr _ _ _ _ (fun q hq => by
                unfold mix
                rw [if_pos hq]) ho.out
              rw [hfin] at r1
              have R1 := hid r1
              have HO := hid hon
              rw [hc1]
              clear r1 hon hfin hMj hc hc1 hx hy hM0 hRV c0 c1 hj1 hlt hj
              go_wp2
              go_end0
              exact ⟨rfl, R1, HO⟩
  · simp only [if_true] at htv
    subst htv
    go_wp2
    go_loopw [2, 9, 19] (fun iv cv kv wr => ∃ k : Nat, k ≤ n ∧ iv = .int .i64 ((i + k : Nat) : Int) ∧ cv = .int .u64 (cy U M (i + k)) ∧ kv = .int .i64 (k : Nat) ∧ wr.heap[g]? = some (.cells (enW C o (mix (i + k) (dg R) (dg V))) T) ∧ Only g w wr) (fun _ _ kv _ => n - (intOf kv).toNat)
    case atStart =>
      refine ⟨0, by omega, by simp, by rw [Nat.add_zero, hMi.out], rfl, ?_, Only.refl _ _⟩
      rw [hg.out]
      have : enW C o (dg V) = enW C o (mix (i + 0) (dg R) (dg V)) := enW_congr _ _ _ _ (fun j _ => by
        unfold mix
        split
        · rename_i hj; exact (hlow.out j hj).symm
        · rfl) ho.out
      rw [this]
    case round =>
      obtain ⟨k, hk, rfl, rfl, rfl, r1, hon⟩ := hrel
      have hin' := hin.out
      by_cases hlt : k < n
      · have cg := row_cell g o (i + k) C _ T wr r1 (by omega) ho.out
        have fg := row_frozen g (o + (i + k)) _ T wr r1
        have cn := hn.out wr k hlt hon r1
        have em : mix (i + k) (dg R) (dg V) (i + k) = dg V (i + k) := by unfold mix; rw [if_neg (by omega)]
        rw [em] at cg
        have x1 := hx.out (i + k)
        have y1 := hy.out (i + k)
        obtain ⟨s1, s2⟩ := cy_step U M (i + k)
        rw [hM.out k hlt] at s1 s2
        have A := run_add64 (dg U (i + k)) (dg N k) (cy U M (i + k)) _ _ (dg_nonneg _ _) (dg_nonneg _ _) (cy_bound U M (i + k)).1 (cy_bound U M (i + k)).2 s1 s2
        have R1 := hid r1
        have HO := hid hon
        have HL := hid hlt
        obtain ⟨v, hv⟩ : ∃ v, dg V (i + k) = v := ⟨_, rfl⟩
        obtain ⟨u, hu⟩ : ∃ v, dg U (i + k) = v := ⟨_, rfl⟩
        obtain ⟨q, hq⟩ : ∃ v, dg N k = v := ⟨_, rfl⟩
        obtain ⟨c, hc⟩ : ∃ v, cy U M (i + k) = v := ⟨_, rfl⟩
        obtain ⟨c2, hc2⟩ : ∃ v, cy U M (i + k + 1) = v := ⟨_, rfl⟩
        obtain ⟨s, hs⟩ : ∃ v, dg (U + M) (i + k) = v := ⟨_, rfl⟩
        obtain ⟨r, hr⟩ : ∃ v, dg R (i + k) = v := ⟨_, rfl⟩
        rw [hv] at cg x1
        rw [hu] at x1 A
        rw [hq] at cn A
        rw [hc] at A ⊢
        rw [hc2] at A
        rw [hs] at y1 A
        rw [hr] at y1
        have HR := hid hr
        have HC2 := hid hc2
        have il : ((i + k : Nat) : Int) < 66 := by omega
        have kl : ((k : Nat) : Int) < n := by omega
        have k66 : ((k : Nat) : Int) < 66 := by omega
        obtain ⟨ik, hik⟩ : ∃ ik, i + k = ik := ⟨_, rfl⟩
        have HO2 := ho
        rw [hik] at cg fg R1 il HR HC2 ⊢
        have HIK := hid hik
        clear s1 s2 hv hu hq hc hc2 hs hr r1 hon hlt hk em hin' hik hg hx hy hM hM0 hMi hRV hlow hn
        go_wp2
        have hik := HIK.out
        refine ⟨⟨k + 1, HL.out, by rw [← hik]; simp; omega, by rw [← HC2.out, ← hik, Nat.add_assoc], by simp, ?_, HO.out.trans (only_set _ _ _ _)⟩, by have := HL.out; simp [intOf]; omega⟩
        rw [row_set _ _ _ _ _ _ _ _ R1.out (by omega) HO2.out, ← HR.out, mix_step, ← hik, Nat.add_assoc]
      · have hkn : k = n := by omega
        subst hkn
        have kl : decide (((k : Nat) : Int) < (k : Nat)) = false := by simp
        have R1 := hid r1
        have HO := hid hon
        obtain ⟨c, hc⟩ : ∃ v, cy U M (i + k) = v := ⟨_, rfl⟩
        obtain ⟨ik, hik⟩ : ∃ ik, i + k = ik := ⟨_, rfl⟩
        rw [hc]
        rw [hik] at R1 hc ⊢
        have HC := hid hc
        have HIK := hid hik
        clear r1 hon hlt hk hin' hc hik hg hM hMi hlow hn
        go_wp2
        go_loopw [2, 9] (fun iv cv wr => ∃ j : Nat, i + k ≤ j ∧ j ≤ 66 ∧ iv = .int .i64 ((j : Nat) : Int) ∧ cv = .int .u64 (cy U M j) ∧ wr.heap[g]? = some (.cells (enW C o (mix j (dg R) (dg V))) T) ∧ Only g w wr) (fun iv _ _ => 66 - (intOf iv).toNat)
        case atStart =>
          exact ⟨ik, by rw [HIK.out]; omega, by have := hin.out; have := HIK.out; omega, rfl, by rw [HC.out], R1.out, HO.out⟩
        case round =>
          clear R1 HO HC HIK
          obtain ⟨j, hj1, hj, rfl, rfl, r1, hon⟩ := hrel
          obtain ⟨c0, c1⟩ := cy_bound U M j
          have hMj := div_up M _ j hM0.out hj1
          by_cases hc : cy U M j = 0
          · have hfin : enW C o (mix j (dg R) (dg V)) = enW C o (dg R) := enW_congr _ _ _ _ (fun q _ => by
              unfold mix
              split
              · rfl
              · exact (hRV.out q (dg_rest U M j q hc hMj (by omega))).symm) ho.out
            rw [hfin] at r1
            have R1 := hid r1
            have HO := hid hon
            rw [hc]
            clear r1 hon hfin hMj hc hx hy hM0 hRV c0 c1 hj1
            go_wp2
            go_end0
            exact ⟨rfl, R1, HO⟩
          · by_cases hlt : j < 66
            · have cg := row_cell g o j C _ T wr r1 hlt ho.out
              have fg := row_frozen g (o + j) _ T wr r1
              have em : mix j (dg R) (dg V) j = dg V j := by unfold mix; rw [if_neg (by omega)]
              rw [em] at cg
              have x1 := hx.out j
              have y1 := hy.out j
              obtain ⟨s1, s2⟩ := cy_step U M j
              rw [dg_zero_of M j hMj] at s1 s2
              have A := run_add64 (dg U j) 0 (cy U M j) _ _ (dg_nonneg _ _) (by omega) c0 c1 s1 s2
              have R1 := hid r1
              have HO := hid hon
              have HL := hid hlt
              have hc1 : cy U M j = 1 := by omega
              obtain ⟨v, hv⟩ : ∃ v, dg V j = v := ⟨_, rfl⟩
              obtain ⟨u, hu⟩ : ∃ v, dg U j = v := ⟨_, rfl⟩
              obtain ⟨c2, hc2⟩ : ∃ v, cy U M (j + 1) = v := ⟨_, rfl⟩
              obtain ⟨s, hs⟩ : ∃ v, dg (U + M) j = v := ⟨_, rfl⟩
              obtain ⟨r, hr⟩ : ∃ v, dg R j = v := ⟨_, rfl⟩
              rw [hv] at cg x1
              rw [hu] at x1 A
              rw [hc1] at A ⊢
              rw [hc2] at A
              rw [hs] at y1 A
              rw [hr] at y1
              have HR := hid hr
              have HC2 := hid hc2
              have HJ := hid hj1
              have il : ((j : Nat) : Int) < 66 := by omega
              have HO2 := ho
              clear s1 s2 hv hu hc hc1 hc2 hs hr r1 hon hlt hj em hx hy hM0 hRV hMj c0 c1 hj1
              go_wp2
              have hl := HL.out
              refine ⟨⟨j + 1, by have := HJ.out; omega, by omega, by simp, by rw [HC2.out], ?_, HO.out.trans (only_set _ _ _ _)⟩, by simp [intOf]; omega⟩
              rw [row_set _ _ _ _ _ _ _ _ R1.out hl HO2.out, ← HR.out, mix_step]
            · have hj66 : j = 66 := by omega
              subst hj66
              have hc1 : cy U M 66 = 1 := by omega
              have hfin : enW C o (mix 66 (dg R) (dg V)) = enW C o (dg R) := enW_congr _ _ _ _ (fun q hq => by
                unfold mix
                rw [if_pos hq]) ho.out
              rw [hfin] at r1
              have R1 := hid r1
              have HO := hid hon
              rw [hc1]
              clear r1 hon hfin hMj hc hc1 hx hy hM0 hRV c0 c1 hj1 hlt hj
              go_wp2
              go_end0
              exact ⟨rfl, R1, HO⟩

/-- A NUMBER ADDED, or taken off: the words of another block, or the words themselves -/
theorem fadd_at (g o h p n i cap : Nat) (T : TypeId) (C : Array Value) (off : Bool) (V N : Int) (w : World)
    (hg : w.heap[g]? = some (.cells (enW C o (dg V)) T)) (ho : o + 66 ≤ C.size) (hin : i + n ≤ 66) (N0 : 0 ≤ N) (N1 : N < ((2 ^ (64 * n) : Nat) : Int))
    (hn : (h ≠ g ∧ ∀ k, k < n → w.cell? ⟨h, p + k, none⟩ = some (.int .u64 (dg N k))) ∨ (h = g ∧ p = o ∧ i = 0 ∧ ∀ k, k < n → dg V k = dg N k)) :
    Calls Try.prog 33 #[.pointer (some ⟨g, o, none⟩), .slice (some ⟨h, p, none⟩) n cap, .int .i64 i, .bool off] w fun e w' => e = .returned (.tuple #[]) ∧
      Hid (w'.heap[g]? = some (.cells (enW C o (dg (if off then V - N * ((2 ^ (64 * i) : Nat) : Int) else V + N * ((2 ^ (64 * i) : Nat) : Int)))) T)) ∧ Hid (Only g w w') := by
  have hp := p64_pos i
  have hM0 : (N * ((2 ^ (64 * i) : Nat) : Int)) / ((2 ^ (64 * (i + n)) : Nat) : Int) = 0 := by
    rw [p64_add, Int.mul_comm N, Int.mul_ediv_mul_of_pos _ _ hp, dg_small N n N0 N1]
  have hM : ∀ k, k < n → dg (N * ((2 ^ (64 * i) : Nat) : Int)) (i + k) = dg N k := fun k _ => dg_shift N i k
  have hMi : ∀ U, cy U (N * ((2 ^ (64 * i) : Nat) : Int)) i = 0 := fun U => cy_mul U N i
  have hlo : ∀ (s : Int) j, j < i → dg (V + s * (N * ((2 ^ (64 * i) : Nat) : Int))) j = dg V j := fun s j hj => dg_congr _ _ (s * N) i j (by rw [Int.mul_assoc]) hj
  have hnn : ∀ R : Int, Hid (∀ wr k, k < n → Only g w wr → wr.heap[g]? = some (.cells (enW C o (mix (i + k) (dg R) (dg V))) T) → wr.cell? ⟨h, p + k, none⟩ = some (.int .u64 (dg N k))) := by
    intro R wr k hk hon hr
    rcases hn with ⟨hne, hc⟩ | ⟨rfl, rfl, rfl, hc⟩
    · rw [← hc k hk]
      exact World.cell?_of_block (w := w) (hon.block h hne)
    · rw [row_cell h p k C _ T wr (by rw [Nat.zero_add] at hr; exact hr) (by omega) ho]
      have : mix k (dg R) (dg V) k = dg V k := by unfold mix; rw [if_neg (by omega)]
      rw [this, hc k hk]
  cases off
  · rw [if_neg (by decide)]
    refine add_go g o h p n i cap T C false 0 V N V (N * ((2 ^ (64 * i) : Nat) : Int)) _ w hg ho rfl ?_ ?_ hM hM0 (hMi _) ?_ ?_ hin (hnn _)
    · exact fun j => xor_zero _ (dg_nonneg _ _) (dg_lt _ _)
    · exact fun j => xor_zero _ (dg_nonneg _ _) (dg_lt _ _)
    · exact fun j h => h
    · intro j hj
      have := hlo 1 j hj
      rw [Int.one_mul] at this; exact this
  · rw [if_pos rfl]
    have e : -1 - (V - N * ((2 ^ (64 * i) : Nat) : Int)) = -1 - V + N * ((2 ^ (64 * i) : Nat) : Int) := by omega
    refine add_go g o h p n i cap T C true 18446744073709551615 V N (-1 - V) (N * ((2 ^ (64 * i) : Nat) : Int)) (V - N * ((2 ^ (64 * i) : Nat) : Int)) w hg ho rfl ?_ ?_ hM hM0 (hMi _) ?_ ?_ hin (hnn _)
    · exact fun j => by rw [xor_all _ (dg_nonneg _ _) (dg_lt _ _), dg_not]
    · intro j
      rw [xor_all _ (dg_nonneg _ _) (dg_lt _ _), ← e, dg_not]; omega
    · intro j h
      rw [← e, dg_not, dg_not] at h; omega
    · intro j hj
      have := hlo (-1) j hj
      rw [Int.neg_mul, Int.one_mul] at this; exact this
end Go.Proofs.Ytgbnabpbheebjaa
