/-
  The float nearest to words, of either sign, and Value: walks over the program.
-/
import Derived.Test.YtgbnabpbheebjaaGt
import Derived.Deep.MidRow
namespace Go.Proofs.Ytgbnabpbheebjaa
open Go.RowKit Tf
attribute [local go_sem] run_bits run_from raw_feq raw_fne raw_flt raw_fgt run_neg

/-- half of 2 to the number of bits of all words -/
def HW : Int := ((2 ^ (64 * 65) : Nat) : Int) * 9223372036854775808
theorem HW_eq (n : Nat) (h : n = 65) : ((2 ^ (64 * n) : Nat) : Int) * 9223372036854775808 = HW := by subst h; rfl
theorem HW_PW : PW = 2 * HW := by
  have key : ∀ n : Nat, n = 65 → PW = 2 * HW := by
    intro n hn
    have h1 := HW_eq n hn
    have h2 := PW_eq (n + 1) (by omega)
    rw [p64_succ] at h2
    rw [← h1, ← h2]
    generalize ((2 ^ (64 * n) : Nat) : Int) = z
    omega
  exact key 65 rfl
theorem top_word (V : Int) (h0 : -HW ≤ V) (h1 : V < HW) : (0 ≤ V → dg V 65 < 9223372036854775808) ∧ (V < 0 → 9223372036854775808 ≤ dg V 65) := by
  have hk : ∀ n : Nat, n = 65 → (0 ≤ V → dg V n < 9223372036854775808) ∧ (V < 0 → 9223372036854775808 ≤ dg V n) := by
    intro n hn
    have e := HW_eq n hn
    have hp := p64_pos n
    unfold dg
    generalize ((2 ^ (64 * n) : Nat) : Int) = P at *
    have hd := Int.mul_ediv_add_emod V P
    have r0 := Int.emod_nonneg V (by omega : P ≠ 0)
    have r1 := Int.emod_lt_of_pos V hp
    have u1 : V / P < 9223372036854775808 := Int.ediv_lt_of_lt_mul hp (by rw [Int.mul_comm]; omega)
    have u2 : -9223372036854775808 ≤ V / P := Int.le_ediv_of_mul_le hp (by rw [Int.neg_mul, Int.mul_comm]; omega)
    refine ⟨fun h => ?_, fun h => ?_⟩
    · have : 0 ≤ V / P := Int.ediv_nonneg h (by omega)
      generalize V / P = y at *
      omega
    · have : V / P < 0 := Int.ediv_neg_of_neg_of_pos h hp
      generalize V / P = y at *
      omega
  exact hk 65 rfl

set_option maxHeartbeats 4000000 in
theorem near_pos (C : Array Value) (a : Int) (b : Nat) (w : World) (hC : Hid (C.size = 66)) (ha : Hid (C[65]? = some (.int .u64 a))) (a0 : 0 ≤ a) (a1 : a < 9223372036854775808)
    (T : Hid (∀ w, Calls Try.prog 49 #[.agg C] w fun e w' => e = .returned (.float .f64 b) ∧ Below w.heap.size w w')) :
    Calls Try.prog 39 #[.agg C] w fun e w' => e = .returned (.float .f64 b) ∧ Below w.heap.size w w' := by
  have c1 : (w.alloc (.cells C 54)).cell? ⟨w.heap.size, 65, none⟩ = some (.int .u64 a) := by
    rw [cell_of_row _ _ _ _ _ _ (heap_alloc_new _ _)]; exact ha.out
  go_enter Try.func39, Try.ntmps39
  go_upto_region 2 with fail
  rename_i K hK
  apply wp_region_lit
  refine wpList_load_row rfl 54 _ rfl w.heap.size rfl 54 C (0, 0) _ (heap_alloc_new _ _) Try.underlying54 rfl (by rw [hC.out]; exact size_fixed) ?_
  go_wp2_with fail
  refine (T.out _).mono ?_
  rintro e w1 ⟨rfl, b1⟩
  have B1 : Hid (Below w.heap.size w w1) := (((Below.refl _ _).alloc (by omega) _).trans (b1.mono (by simp)))
  clear b1
  go_wp2
  go_ret
  exact ⟨rfl, B1.out⟩
set_option maxHeartbeats 4000000 in
theorem near_neg (C D : Array Value) (a : Int) (b b' : Nat) (w : World) (_hC : Hid (C.size = 66)) (hD : Hid (D.size = 66)) (ha : Hid (C[65]? = some (.int .u64 a))) (a0 : 9223372036854775808 ≤ a) (a1 : a < 18446744073709551616) (hb : Op.negFloat .f64 b = b')
    (F : Hid (Calls Try.prog 33 #[.pointer (some ⟨w.heap.size + 1, 0, none⟩), .slice (some ⟨w.heap.size, 0, none⟩) 66 66, .int .i64 0, .bool true] ((w.alloc (.cells C 54)).alloc (.cells ZF 54)) fun e w' => e = .returned (.tuple #[]) ∧ (Hid (w'.heap[w.heap.size + 1]? = some (.cells D 54)) ∧ Hid (Below w.heap.size w w'))))
    (T : Hid (∀ w, Calls Try.prog 49 #[.agg D] w fun e w' => e = .returned (.float .f64 b) ∧ Below w.heap.size w w')) :
    Calls Try.prog 39 #[.agg C] w fun e w' => e = .returned (.float .f64 b') ∧ Below w.heap.size w w' := by
  have c1 : (w.alloc (.cells C 54)).cell? ⟨w.heap.size, 65, none⟩ = some (.int .u64 a) := by
    rw [cell_of_row _ _ _ _ _ _ (heap_alloc_new _ _)]; exact ha.out
  go_enter Try.func39, Try.ntmps39
  go_upto_region 3 with fail
  rename_i K hK
  apply wp_region_lit
  refine wpList_alloc_row rfl 54 rfl ZF zero_fixed ?_
  apply wpList_nil
  refine hK _ _ ?_
  clear hK K
  have hsz : (w.alloc (.cells C 54)).heap.size = w.heap.size + 1 := by simp
  rw [hsz]
  clear hsz c1
  go_wp2_with fail
  refine F.out.mono ?_
  rintro e w1 ⟨rfl, r1, b1⟩
  clear F
  go_upto_region 5 with fail
  rename_i K hK
  apply wp_region_lit
  refine wpList_load_row rfl 54 _ rfl (w.heap.size + 1) rfl 54 D (0, 0) _ r1.out Try.underlying54 rfl (by rw [hD.out]; exact size_fixed) ?_
  go_wp2_with fail
  refine (T.out _).mono ?_
  rintro e w2 ⟨rfl, b2⟩
  have B2 : Hid (Below w.heap.size w w2) := b1.out.trans (b2.mono b1.out.size)
  clear b1 b2 r1
  go_wp2
  go_ret
  exact ⟨rfl, B2.out⟩

/-- the float nearest to so many units of 2^-2148 -/
def rv (V : Int) : Nat := if V < 0 then 9223372036854775808 + min (rung 52 K V.natAbs) 9218868437227405312 else min (rung 52 K V.natAbs) 9218868437227405312
theorem rv_lt (V : Int) : rv V < 18446744073709551616 := by unfold rv; split <;> omega

theorem near_at (V : Int) (w : World) (h0 : -HW ≤ V) (h1 : V < HW) :
    Calls Try.prog 39 #[.agg (encF (dg V))] w fun e w' => e = .returned (.float .f64 (rv V)) ∧ Below w.heap.size w w' := by
  obtain ⟨t1, t2⟩ := top_word V h0 h1
  have hpw := HW_PW
  have hpos := PW_pos
  have ha : (encF (dg V))[65]? = some (.int .u64 (dg V 65)) := by rw [encF_get, if_pos (by omega)]
  by_cases c : V < 0
  · obtain ⟨n, hn⟩ : ∃ n : Nat, V = -(n : Int) := ⟨V.natAbs, by omega⟩
    have hnat : V.natAbs = n := by omega
    have e : rv V = 9223372036854775808 + min (rung 52 K n) 9218868437227405312 := by unfold rv; rw [if_pos c, hnat]
    have hw : ∀ j, j < 66 → dg (0 - V % PW) j = dg (n : Int) j := by
      intro j hj
      have h := Int.mul_ediv_add_emod V PW
      refine dg_congr _ _ (V / PW) 66 j ?_ hj
      rw [PW_eq 66 rfl, Int.mul_comm (V / _)]; omega
    refine near_neg (encF (dg V)) (encF (dg (n : Int))) (dg V 65) (min (rung 52 K n) 9218868437227405312) (rv V) w (encF_size _) (encF_size _) ha (t2 c) (dg_lt _ _) ?_ ?_ (fun w => mag_at n w (by omega))
    · rw [negFloat_eq _ (by omega)]
      rw [e]
      have hl : min (rung 52 K n) 9218868437227405312 ≤ 9218868437227405312 := Nat.min_le_right _ _
      generalize min (rung 52 K n) 9218868437227405312 = z at *
      unfold negB
      rw [ng_of_lt (by omega)]
      simp; omega
    · refine (fadd66 (w.heap.size + 1) 0 w.heap.size 0 66 54 ZF true 0 (V % PW) _ ?_ (by rw [ZF_size]; omega) (Int.emod_nonneg _ (by omega)) (Int.emod_lt_of_pos _ hpos) (Or.inl ⟨by omega, fun k hk => ?_⟩)).mono ?_
      · have : encF (fun _ => 0) = enW ZF 0 (dg 0) := encF_congr _ _ (fun j _ => by unfold dg; simp)
        rw [heap_alloc2_new, ← this, ← ZF_encF]
      · rw [mod_dg _ _ hk, Nat.zero_add]
        exact encF_cell _ k _ _ _ (heap_alloc2_old _ _ _) hk
      · rintro e' w' ⟨q1, q2, q3⟩
        refine ⟨q1, ?_, ?_⟩
        · have q2' := q2.out
          rw [if_pos rfl, enW_congr _ 0 _ (dg (n : Int)) hw (by rw [ZF_size]; omega)] at q2'
          exact q2'
        · refine (((Below.refl _ _).alloc (by omega) (.cells (encF (dg V)) 54)).alloc (by simp) (.cells ZF 54)).trans ?_
          exact q3.out.but.below (by omega) (by simp; omega)
  · obtain ⟨n, rfl⟩ : ∃ n : Nat, V = (n : Int) := ⟨V.natAbs, by omega⟩
    have e : rv (n : Int) = min (rung 52 K n) 9218868437227405312 := by unfold rv; rw [if_neg c, Int.natAbs_natCast]
    rw [e]
    exact near_pos (encF (dg (n : Int))) (dg (n : Int) 65) _ w (encF_size _) ha (dg_nonneg _ _) (t1 (by omega)) (fun w => mag_at n w (by omega))
end Go.Proofs.Ytgbnabpbheebjaa
