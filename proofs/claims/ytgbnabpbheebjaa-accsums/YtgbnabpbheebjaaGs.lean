/-
  The float nearest to words that aren't below nothing: walks over the program.
-/
import Derived.Test.YtgbnabpbheebjaaGr
namespace Go.Proofs.Ytgbnabpbheebjaa
open Go.RowKit Tf
attribute [local go_sem] run_bits run_from raw_feq raw_fne raw_flt raw_fgt run_neg

set_option maxHeartbeats 4000000 in
theorem mag_inf (C : Array Value) (t : Int) (w : World) (hC : Hid (C.size = 66)) (ht : 3172 ≤ t)
    (T : Hid (∀ w, Calls Try.prog 50 #[.agg C] w fun e w' => e = .returned (.int .i64 t) ∧ Below w.heap.size w w')) :
    Calls Try.prog 49 #[.agg C] w fun e w' => e = .returned (.float .f64 9218868437227405312) ∧ Below w.heap.size w w' := by
  go_enter Try.func49, Try.ntmps49
  go_upto_region 1 with fail
  rename_i K hK
  apply wp_region_lit
  refine wpList_load_row rfl 54 _ rfl w.heap.size rfl 54 C (0, 0) _ (heap_alloc_new _ _) Try.underlying54 rfl (by rw [hC.out]; exact size_fixed) ?_
  go_wp2_with fail
  refine (T.out _).mono ?_
  rintro e w1 ⟨rfl, b1⟩
  have B1 : Hid (Below w.heap.size w w1) := (((Below.refl _ _).alloc (by omega) _).trans (b1.mono (by simp)))
  clear b1
  go_wp2_with fail
  refine (mInf_any _).mono ?_
  rintro e w' ⟨rfl, rfl⟩
  go_wp2
  go_ret
  exact ⟨rfl, B1.out⟩
-- MORE
set_option maxHeartbeats 4000000 in
theorem mag_eq (C R H : Array Value) (t l M m2 b : Int) (w : World) (hC : Hid (C.size = 66)) (hR : Hid (R.size = 66)) (hH : Hid (H.size = 66)) (oR : Hid (R.all (·.oneCell') = true)) (oH : Hid (H.all (·.oneCell') = true)) (ht : t < 3172) (ht0 : -1 ≤ t) (hl : (if t - 52 < 1074 then 1074 else t - 52) = l) (l0 : 1074 ≤ l) (l1 : l < 3120)
    (T : Hid (∀ w, Calls Try.prog 50 #[.agg C] w fun e w' => e = .returned (.int .i64 t) ∧ Below w.heap.size w w'))
    (F : Hid (∀ w, Calls Try.prog 51 #[.agg C, .int .i64 l] w fun e w' => e = .returned (.int .u64 M) ∧ Below w.heap.size w w'))
    (B : Hid (∀ w, Calls Try.prog 52 #[.agg C, .int .i64 l] w fun e w' => e = .returned (.agg R) ∧ Below w.heap.size w w'))
    (N : Hid (∀ w, Calls Try.prog 53 #[.int .i64 (l - 1)] w fun e w' => e = .returned (.agg H) ∧ Below w.heap.size w w'))
    (E : Hid (∀ w, (Op.equalIn 10000 54 (.agg R) (.agg H)).run Try.prog w = .ok true w)) (hm : M + M % 2 = m2) (ha : bits .and .u64 M 1 = M % 2)
    (M0 : 0 ≤ M) (M1 : M < 9007199254740992) (hb : (l - 1074) * 4503599627370496 + m2 = b) (b0 : 0 ≤ b) (b1 : b < 18446744073709551616) :
    Calls Try.prog 49 #[.agg C] w fun e w' => e = .returned (.float .f64 b.toNat) ∧ Below w.heap.size w w' := by
  have hgd := fixed_guard
  go_enter Try.func49, Try.ntmps49
  go_upto_region 1 with fail
  rename_i K hK
  apply wp_region_lit
  refine wpList_load_row rfl 54 _ rfl w.heap.size rfl 54 C (0, 0) _ (heap_alloc_new _ _) Try.underlying54 rfl (by rw [hC.out]; exact size_fixed) ?_
  go_wp2_with fail
  refine (T.out _).mono ?_
  rintro e w1 ⟨rfl, b1⟩
  have B1 : Hid (Below w.heap.size w w1) := (((Below.refl _ _).alloc (by omega) _).trans (b1.mono (by simp)))
  have r1 : Hid (w1.heap[w.heap.size]? = some (.cells C 54)) := by
    show _ = _
    rw [b1.block _ (by simp)]; exact heap_alloc_new _ _
  clear b1
  go_upto_region 5 with fail
  rename_i K hK
  apply wp_region_lit
  refine wpList_load_row rfl 54 _ rfl w.heap.size rfl 54 C (0, 0) _ r1.out Try.underlying54 rfl (by rw [hC.out]; exact size_fixed) ?_
  go_wp2_with fail
  refine (F.out _).mono ?_
  rintro e w2 ⟨rfl, b2⟩
  have s1 := row_lt r1.out
  have B2 : Hid (Below w.heap.size w w2) := B1.out.trans (b2.mono B1.out.size)
  have r2 : Hid (w2.heap[w.heap.size]? = some (.cells C 54)) := by
    show _ = _
    rw [b2.block _ s1]; exact r1.out
  clear b2 s1 r1 B1
  go_upto_region 6 with fail
  rename_i K hK
  apply wp_region_lit
  refine wpList_load_row rfl 54 _ rfl w.heap.size rfl 54 C (0, 0) _ r2.out Try.underlying54 rfl (by rw [hC.out]; exact size_fixed) ?_
  go_wp2_with fail
  refine (B.out _).mono ?_
  rintro e w3 ⟨rfl, b3⟩
  have B3 : Hid (Below w.heap.size w w3) := B2.out.trans (b3.mono B2.out.size)
  clear b3 r2 B2
  go_wp2_with fail
  refine (N.out _).mono ?_
  rintro e w4 ⟨rfl, b4⟩
  have B4 : Hid (Below w.heap.size w w4) := B3.out.trans (b4.mono B3.out.size)
  clear b4 B3
  rename_i K2 hK2
  refine hK2 _ _ ?_
  clear hK2 K2
  refine wpList_alloc_row rfl 54 rfl ZF zero_fixed ?_
  refine wpList_alloc_row rfl 54 rfl ZF zero_fixed ?_
  have hsz : (w4.alloc (.cells ZF 54)).heap.size = w4.heap.size + 1 := by simp
  rw [hsz]
  have q1 : ((w4.alloc (.cells ZF 54)).alloc (.cells ZF 54)).heap[w4.heap.size]? = some (.cells ZF 54) := heap_alloc2_old _ _ _
  have q2 : (((w4.alloc (.cells ZF 54)).alloc (.cells ZF 54)).setRow w4.heap.size R).heap[w4.heap.size + 1]? = some (.cells ZF 54) := by
    rw [setRow_other _ _ _ _ (by omega)]; exact heap_alloc2_new _ _ _
  refine wpList_store_row rfl 54 _ _ rfl w4.heap.size R rfl rfl 54 ZF q1 (by rw [hR.out]; exact size_fixed) (by rw [hR.out, ZF_size]) oR.out ?_
  refine wpList_store_row rfl 54 _ _ rfl (w4.heap.size + 1) H rfl rfl 54 ZF q2 (by rw [hH.out]; exact size_fixed) (by rw [hH.out, ZF_size]) oH.out ?_
  have rH := hid (setRow_heap _ (w4.heap.size + 1) _ H _ (0, 0) q2)
  have rR := hid ((setRow_other (((w4.alloc (.cells ZF 54)).alloc (.cells ZF 54)).setRow w4.heap.size R) (w4.heap.size + 1) w4.heap.size H (by omega)).trans (setRow_heap _ w4.heap.size _ R _ (0, 0) q1))
  have B5 : Hid (Below w.heap.size w ((((w4.alloc (.cells ZF 54)).alloc (.cells ZF 54)).setRow w4.heap.size R).setRow (w4.heap.size + 1) H)) := by
    have hs := B4.out.size
    refine ((B4.out.alloc hs (.cells ZF 54)).alloc (by simp; omega) (.cells ZF 54)).trans ⟨rfl, rfl, rfl, by simp [World.setRow], fun k hk => ?_⟩
    rw [setRow_other _ _ _ _ (by omega), setRow_other _ _ _ _ (by omega)]
  obtain ⟨g4, hg4⟩ : ∃ g, w4.heap.size = g := ⟨_, rfl⟩
  rw [hg4] at rH rR B5 ⊢
  obtain ⟨W, hW⟩ : ∃ W, ((((w4.alloc (.cells ZF 54)).alloc (.cells ZF 54)).setRow g4 R).setRow (g4 + 1) H) = W := ⟨_, rfl⟩
  rw [hW] at rH rR B5 ⊢
  clear hW hg4 q1 q2 hsz B4
  apply wpList_nil
  refine hK _ _ ?_
  clear hK K
  go_upto_region 7 with fail
  rename_i K hK
  apply wp_region_lit
  refine wpList_load_row rfl 54 _ rfl g4 rfl 54 R (0, 0) _ rR.out Try.underlying54 rfl (by rw [hR.out]; exact size_fixed) ?_
  refine wpList_load_row rfl 54 _ rfl (g4 + 1) rfl 54 H (0, 0) _ rH.out Try.underlying54 rfl (by rw [hH.out]; exact size_fixed) ?_
  have E' := E.out
  go_wp2
  go_ret
  exact ⟨rfl, B5.out⟩
set_option maxHeartbeats 4000000 in
theorem mag_up (C R H : Array Value) (t l M m2 b t2 : Int) (w : World) (hC : Hid (C.size = 66)) (hR : Hid (R.size = 66)) (hH : Hid (H.size = 66)) (oR : Hid (R.all (·.oneCell') = true)) (oH : Hid (H.all (·.oneCell') = true)) (ht : t < 3172) (ht0 : -1 ≤ t) (hl : (if t - 52 < 1074 then 1074 else t - 52) = l) (l0 : 1074 ≤ l) (l1 : l < 3120)
    (T : Hid (∀ w, Calls Try.prog 50 #[.agg C] w fun e w' => e = .returned (.int .i64 t) ∧ Below w.heap.size w w'))
    (F : Hid (∀ w, Calls Try.prog 51 #[.agg C, .int .i64 l] w fun e w' => e = .returned (.int .u64 M) ∧ Below w.heap.size w w'))
    (B : Hid (∀ w, Calls Try.prog 52 #[.agg C, .int .i64 l] w fun e w' => e = .returned (.agg R) ∧ Below w.heap.size w w'))
    (N : Hid (∀ w, Calls Try.prog 53 #[.int .i64 (l - 1)] w fun e w' => e = .returned (.agg H) ∧ Below w.heap.size w w'))
    (E : Hid (∀ w, (Op.equalIn 10000 54 (.agg R) (.agg H)).run Try.prog w = .ok false w)) (T2 : Hid (∀ w, Calls Try.prog 50 #[.agg R] w fun e w' => e = .returned (.int .i64 t2) ∧ Below w.heap.size w w')) (h2 : t2 = l - 1) (hm : M + 1 = m2)
    (M0 : 0 ≤ M) (M1 : M < 9007199254740992) (hb : (l - 1074) * 4503599627370496 + m2 = b) (b0 : 0 ≤ b) (b1 : b < 18446744073709551616) :
    Calls Try.prog 49 #[.agg C] w fun e w' => e = .returned (.float .f64 b.toNat) ∧ Below w.heap.size w w' := by
  have hgd := fixed_guard
  go_enter Try.func49, Try.ntmps49
  go_upto_region 1 with fail
  rename_i K hK
  apply wp_region_lit
  refine wpList_load_row rfl 54 _ rfl w.heap.size rfl 54 C (0, 0) _ (heap_alloc_new _ _) Try.underlying54 rfl (by rw [hC.out]; exact size_fixed) ?_
  go_wp2_with fail
  refine (T.out _).mono ?_
  rintro e w1 ⟨rfl, b1⟩
  have B1 : Hid (Below w.heap.size w w1) := (((Below.refl _ _).alloc (by omega) _).trans (b1.mono (by simp)))
  have r1 : Hid (w1.heap[w.heap.size]? = some (.cells C 54)) := by
    show _ = _
    rw [b1.block _ (by simp)]; exact heap_alloc_new _ _
  clear b1
  go_upto_region 5 with fail
  rename_i K hK
  apply wp_region_lit
  refine wpList_load_row rfl 54 _ rfl w.heap.size rfl 54 C (0, 0) _ r1.out Try.underlying54 rfl (by rw [hC.out]; exact size_fixed) ?_
  go_wp2_with fail
  refine (F.out _).mono ?_
  rintro e w2 ⟨rfl, b2⟩
  have s1 := row_lt r1.out
  have B2 : Hid (Below w.heap.size w w2) := B1.out.trans (b2.mono B1.out.size)
  have r2 : Hid (w2.heap[w.heap.size]? = some (.cells C 54)) := by
    show _ = _
    rw [b2.block _ s1]; exact r1.out
  clear b2 s1 r1 B1
  go_upto_region 6 with fail
  rename_i K hK
  apply wp_region_lit
  refine wpList_load_row rfl 54 _ rfl w.heap.size rfl 54 C (0, 0) _ r2.out Try.underlying54 rfl (by rw [hC.out]; exact size_fixed) ?_
  go_wp2_with fail
  refine (B.out _).mono ?_
  rintro e w3 ⟨rfl, b3⟩
  have B3 : Hid (Below w.heap.size w w3) := B2.out.trans (b3.mono B2.out.size)
  clear b3 r2 B2
  go_wp2_with fail
  refine (N.out _).mono ?_
  rintro e w4 ⟨rfl, b4⟩
  have B4 : Hid (Below w.heap.size w w4) := B3.out.trans (b4.mono B3.out.size)
  clear b4 B3
  rename_i K2 hK2
  refine hK2 _ _ ?_
  clear hK2 K2
  refine wpList_alloc_row rfl 54 rfl ZF zero_fixed ?_
  refine wpList_alloc_row rfl 54 rfl ZF zero_fixed ?_
  have hsz : (w4.alloc (.cells ZF 54)).heap.size = w4.heap.size + 1 := by simp
  rw [hsz]
  have q1 : ((w4.alloc (.cells ZF 54)).alloc (.cells ZF 54)).heap[w4.heap.size]? = some (.cells ZF 54) := heap_alloc2_old _ _ _
  have q2 : (((w4.alloc (.cells ZF 54)).alloc (.cells ZF 54)).setRow w4.heap.size R).heap[w4.heap.size + 1]? = some (.cells ZF 54) := by
    rw [setRow_other _ _ _ _ (by omega)]; exact heap_alloc2_new _ _ _
  refine wpList_store_row rfl 54 _ _ rfl w4.heap.size R rfl rfl 54 ZF q1 (by rw [hR.out]; exact size_fixed) (by rw [hR.out, ZF_size]) oR.out ?_
  refine wpList_store_row rfl 54 _ _ rfl (w4.heap.size + 1) H rfl rfl 54 ZF q2 (by rw [hH.out]; exact size_fixed) (by rw [hH.out, ZF_size]) oH.out ?_
  have rH := hid (setRow_heap _ (w4.heap.size + 1) _ H _ (0, 0) q2)
  have rR := hid ((setRow_other (((w4.alloc (.cells ZF 54)).alloc (.cells ZF 54)).setRow w4.heap.size R) (w4.heap.size + 1) w4.heap.size H (by omega)).trans (setRow_heap _ w4.heap.size _ R _ (0, 0) q1))
  have B5 : Hid (Below w.heap.size w ((((w4.alloc (.cells ZF 54)).alloc (.cells ZF 54)).setRow w4.heap.size R).setRow (w4.heap.size + 1) H)) := by
    have hs := B4.out.size
    refine ((B4.out.alloc hs (.cells ZF 54)).alloc (by simp; omega) (.cells ZF 54)).trans ⟨rfl, rfl, rfl, by simp [World.setRow], fun k hk => ?_⟩
    rw [setRow_other _ _ _ _ (by omega), setRow_other _ _ _ _ (by omega)]
  obtain ⟨g4, hg4⟩ : ∃ g, w4.heap.size = g := ⟨_, rfl⟩
  rw [hg4] at rH rR B5 ⊢
  obtain ⟨W, hW⟩ : ∃ W, ((((w4.alloc (.cells ZF 54)).alloc (.cells ZF 54)).setRow g4 R).setRow (g4 + 1) H) = W := ⟨_, rfl⟩
  rw [hW] at rH rR B5 ⊢
  clear hW hg4 q1 q2 hsz B4
  apply wpList_nil
  refine hK _ _ ?_
  clear hK K
  go_upto_region 7 with fail
  rename_i K hK
  apply wp_region_lit
  refine wpList_load_row rfl 54 _ rfl g4 rfl 54 R (0, 0) _ rR.out Try.underlying54 rfl (by rw [hR.out]; exact size_fixed) ?_
  refine wpList_load_row rfl 54 _ rfl (g4 + 1) rfl 54 H (0, 0) _ rH.out Try.underlying54 rfl (by rw [hH.out]; exact size_fixed) ?_
  have E' := E.out
  go_upto_region 9 with fail
  rename_i K hK
  apply wp_region_lit
  refine wpList_load_row rfl 54 _ rfl g4 rfl 54 R (0, 0) _ rR.out Try.underlying54 rfl (by rw [hR.out]; exact size_fixed) ?_
  go_wp2_with fail
  refine (T2.out _).mono ?_
  rintro e w6 ⟨rfl, b6⟩
  have B6 : Hid (Below w.heap.size w w6) := B5.out.trans (b6.mono B5.out.size)
  clear b6 B5 rR rH
  go_wp2
  go_ret
  exact ⟨rfl, B6.out⟩
set_option maxHeartbeats 4000000 in
theorem mag_down (C R H : Array Value) (t l M m2 b t2 : Int) (w : World) (hC : Hid (C.size = 66)) (hR : Hid (R.size = 66)) (hH : Hid (H.size = 66)) (oR : Hid (R.all (·.oneCell') = true)) (oH : Hid (H.all (·.oneCell') = true)) (ht : t < 3172) (ht0 : -1 ≤ t) (hl : (if t - 52 < 1074 then 1074 else t - 52) = l) (l0 : 1074 ≤ l) (l1 : l < 3120)
    (T : Hid (∀ w, Calls Try.prog 50 #[.agg C] w fun e w' => e = .returned (.int .i64 t) ∧ Below w.heap.size w w'))
    (F : Hid (∀ w, Calls Try.prog 51 #[.agg C, .int .i64 l] w fun e w' => e = .returned (.int .u64 M) ∧ Below w.heap.size w w'))
    (B : Hid (∀ w, Calls Try.prog 52 #[.agg C, .int .i64 l] w fun e w' => e = .returned (.agg R) ∧ Below w.heap.size w w'))
    (N : Hid (∀ w, Calls Try.prog 53 #[.int .i64 (l - 1)] w fun e w' => e = .returned (.agg H) ∧ Below w.heap.size w w'))
    (E : Hid (∀ w, (Op.equalIn 10000 54 (.agg R) (.agg H)).run Try.prog w = .ok false w)) (T2 : Hid (∀ w, Calls Try.prog 50 #[.agg R] w fun e w' => e = .returned (.int .i64 t2) ∧ Below w.heap.size w w')) (h2 : t2 < l - 1) (_h20 : -1 ≤ t2) (hm : M = m2)
    (_M0 : 0 ≤ M) (_M1 : M < 9007199254740992) (hb : (l - 1074) * 4503599627370496 + m2 = b) (b0 : 0 ≤ b) (b1 : b < 18446744073709551616) :
    Calls Try.prog 49 #[.agg C] w fun e w' => e = .returned (.float .f64 b.toNat) ∧ Below w.heap.size w w' := by
  have hgd := fixed_guard
  go_enter Try.func49, Try.ntmps49
  go_upto_region 1 with fail
  rename_i K hK
  apply wp_region_lit
  refine wpList_load_row rfl 54 _ rfl w.heap.size rfl 54 C (0, 0) _ (heap_alloc_new _ _) Try.underlying54 rfl (by rw [hC.out]; exact size_fixed) ?_
  go_wp2_with fail
  refine (T.out _).mono ?_
  rintro e w1 ⟨rfl, b1⟩
  have B1 : Hid (Below w.heap.size w w1) := (((Below.refl _ _).alloc (by omega) _).trans (b1.mono (by simp)))
  have r1 : Hid (w1.heap[w.heap.size]? = some (.cells C 54)) := by
    show _ = _
    rw [b1.block _ (by simp)]; exact heap_alloc_new _ _
  clear b1
  go_upto_region 5 with fail
  rename_i K hK
  apply wp_region_lit
  refine wpList_load_row rfl 54 _ rfl w.heap.size rfl 54 C (0, 0) _ r1.out Try.underlying54 rfl (by rw [hC.out]; exact size_fixed) ?_
  go_wp2_with fail
  refine (F.out _).mono ?_
  rintro e w2 ⟨rfl, b2⟩
  have s1 := row_lt r1.out
  have B2 : Hid (Below w.heap.size w w2) := B1.out.trans (b2.mono B1.out.size)
  have r2 : Hid (w2.heap[w.heap.size]? = some (.cells C 54)) := by
    show _ = _
    rw [b2.block _ s1]; exact r1.out
  clear b2 s1 r1 B1
  go_upto_region 6 with fail
  rename_i K hK
  apply wp_region_lit
  refine wpList_load_row rfl 54 _ rfl w.heap.size rfl 54 C (0, 0) _ r2.out Try.underlying54 rfl (by rw [hC.out]; exact size_fixed) ?_
  go_wp2_with fail
  refine (B.out _).mono ?_
  rintro e w3 ⟨rfl, b3⟩
  have B3 : Hid (Below w.heap.size w w3) := B2.out.trans (b3.mono B2.out.size)
  clear b3 r2 B2
  go_wp2_with fail
  refine (N.out _).mono ?_
  rintro e w4 ⟨rfl, b4⟩
  have B4 : Hid (Below w.heap.size w w4) := B3.out.trans (b4.mono B3.out.size)
  clear b4 B3
  rename_i K2 hK2
  refine hK2 _ _ ?_
  clear hK2 K2
  refine wpList_alloc_row rfl 54 rfl ZF zero_fixed ?_
  refine wpList_alloc_row rfl 54 rfl ZF zero_fixed ?_
  have hsz : (w4.alloc (.cells ZF 54)).heap.size = w4.heap.size + 1 := by simp
  rw [hsz]
  have q1 : ((w4.alloc (.cells ZF 54)).alloc (.cells ZF 54)).heap[w4.heap.size]? = some (.cells ZF 54) := heap_alloc2_old _ _ _
  have q2 : (((w4.alloc (.cells ZF 54)).alloc (.cells ZF 54)).setRow w4.heap.size R).heap[w4.heap.size + 1]? = some (.cells ZF 54) := by
    rw [setRow_other _ _ _ _ (by omega)]; exact heap_alloc2_new _ _ _
  refine wpList_store_row rfl 54 _ _ rfl w4.heap.size R rfl rfl 54 ZF q1 (by rw [hR.out]; exact size_fixed) (by rw [hR.out, ZF_size]) oR.out ?_
  refine wpList_store_row rfl 54 _ _ rfl (w4.heap.size + 1) H rfl rfl 54 ZF q2 (by rw [hH.out]; exact size_fixed) (by rw [hH.out, ZF_size]) oH.out ?_
  have rH := hid (setRow_heap _ (w4.heap.size + 1) _ H _ (0, 0) q2)
  have rR := hid ((setRow_other (((w4.alloc (.cells ZF 54)).alloc (.cells ZF 54)).setRow w4.heap.size R) (w4.heap.size + 1) w4.heap.size H (by omega)).trans (setRow_heap _ w4.heap.size _ R _ (0, 0) q1))
  have B5 : Hid (Below w.heap.size w ((((w4.alloc (.cells ZF 54)).alloc (.cells ZF 54)).setRow w4.heap.size R).setRow (w4.heap.size + 1) H)) := by
    have hs := B4.out.size
    refine ((B4.out.alloc hs (.cells ZF 54)).alloc (by simp; omega) (.cells ZF 54)).trans ⟨rfl, rfl, rfl, by simp [World.setRow], fun k hk => ?_⟩
    rw [setRow_other _ _ _ _ (by omega), setRow_other _ _ _ _ (by omega)]
  obtain ⟨g4, hg4⟩ : ∃ g, w4.heap.size = g := ⟨_, rfl⟩
  rw [hg4] at rH rR B5 ⊢
  obtain ⟨W, hW⟩ : ∃ W, ((((w4.alloc (.cells ZF 54)).alloc (.cells ZF 54)).setRow g4 R).setRow (g4 + 1) H) = W := ⟨_, rfl⟩
  rw [hW] at rH rR B5 ⊢
  clear hW hg4 q1 q2 hsz B4
  apply wpList_nil
  refine hK _ _ ?_
  clear hK K
  go_upto_region 7 with fail
  rename_i K hK
  apply wp_region_lit
  refine wpList_load_row rfl 54 _ rfl g4 rfl 54 R (0, 0) _ rR.out Try.underlying54 rfl (by rw [hR.out]; exact size_fixed) ?_
  refine wpList_load_row rfl 54 _ rfl (g4 + 1) rfl 54 H (0, 0) _ rH.out Try.underlying54 rfl (by rw [hH.out]; exact size_fixed) ?_
  have E' := E.out
  go_upto_region 9 with fail
  rename_i K hK
  apply wp_region_lit
  refine wpList_load_row rfl 54 _ rfl g4 rfl 54 R (0, 0) _ rR.out Try.underlying54 rfl (by rw [hR.out]; exact size_fixed) ?_
  go_wp2_with fail
  refine (T2.out _).mono ?_
  rintro e w6 ⟨rfl, b6⟩
  have B6 : Hid (Below w.heap.size w w6) := B5.out.trans (b6.mono B5.out.size)
  clear b6 B5 rR rH
  go_wp2
  go_ret
  exact ⟨rfl, B6.out⟩
end Go.Proofs.Ytgbnabpbheebjaa
