/-
  The bits below a place, one bit, arrays compared: walks over the program.
-/
import Derived.Test.YtgbnabpbheebjaaGq
import Derived.Laws.StructEq
namespace Go.Proofs.Ytgbnabpbheebjaa
open Go.RowKit Tf
attribute [local go_sem] run_bits run_from raw_feq raw_fne raw_flt raw_fgt run_neg

theorem e64 : (2 : Nat) ^ 64 = 18446744073709551616 := by decide
theorem and_mask (a s : Nat) (ha : a < 18446744073709551616) (hs : s < 64) : bits .and .u64 (a : Int) (IntKind.u64.wrap (IntKind.u64.wrap (2 ^ ((s : Nat) : Int).toNat) - 1)) = ((a % 2 ^ s : Nat) : Int) := by
  have hlt : 2 ^ s < 18446744073709551616 := by rw [← e64]; exact Nat.pow_lt_pow_right (by decide) hs
  have hpos := pow_pos s
  have e1 : IntKind.u64.wrap (IntKind.u64.wrap (2 ^ ((s : Nat) : Int).toNat) - 1) = ((2 ^ s - 1 : Nat) : Int) := by
    rw [u64wr, u64wr, Int.toNat_natCast, two_pow_cast]
    generalize 2 ^ s = z at *
    omega
  rw [e1]
  show IntKind.u64.wrap ((BitVec.ofInt 64 (a : Int) &&& BitVec.ofInt 64 ((2 ^ s - 1 : Nat) : Int)).toNat : Int) = _
  rw [BitVec.toNat_and, ofInt_u64 _ ha, ofInt_u64 _ (by omega), Nat.and_two_pow_sub_one_eq_mod, u64wr]
  have := Nat.mod_le a (2 ^ s)
  omega

theorem dg_below (V q s j : Nat) (hs : s < 64) : dg ((V % 2 ^ (64 * q + s) : Nat) : Int) j = if j < q then dg (V : Int) j else if j = q then ((V / 2 ^ (64 * q) % 18446744073709551616 % 2 ^ s : Nat) : Int) else 0 := by
  by_cases c : j < q
  · rw [if_pos c]
    refine (dg_congr (V : Int) _ ((V / 2 ^ (64 * q + s) * 2 ^ s : Nat) : Int) q j ?_ c).symm
    rw [← Int.natCast_mul, ← Int.natCast_add]
    have := Nat.div_add_mod V (2 ^ (64 * q + s))
    have e : V / 2 ^ (64 * q + s) * 2 ^ s * 2 ^ (64 * q) = 2 ^ (64 * q + s) * (V / 2 ^ (64 * q + s)) := by
      rw [Nat.mul_assoc, ← Nat.pow_add, Nat.add_comm s, Nat.mul_comm]
    rw [e]
    congr 1
    omega
  · rw [if_neg c]
    by_cases c2 : j = q
    · subst c2
      rw [if_pos rfl, dg_nat, Nat.pow_add, Nat.mod_mul_right_div_self]
      have hd : 2 ^ s ∣ 18446744073709551616 := by rw [← e64]; exact Nat.pow_dvd_pow 2 (by omega)
      rw [Nat.mod_mod_of_dvd _ hd]
      have hlt : 2 ^ s ≤ 18446744073709551616 := Nat.le_of_dvd (by decide) hd
      have := Nat.mod_lt (V / 2 ^ (64 * j)) (pow_pos s)
      rw [Nat.mod_eq_of_lt (by omega : V / 2 ^ (64 * j) % 2 ^ s < 18446744073709551616)]
    · rw [if_neg c2, dg_nat]
      have h1 : V % 2 ^ (64 * q + s) < 2 ^ (64 * j) := Nat.lt_of_lt_of_le (Nat.mod_lt _ (pow_pos _)) (Nat.pow_le_pow_right (by decide) (by omega))
      rw [Nat.div_eq_of_lt h1]; rfl
theorem dg_one (q s j : Nat) (hs : s < 64) : dg ((2 ^ (64 * q + s) : Nat) : Int) j = if j = q then ((2 ^ s : Nat) : Int) else 0 := by
  have hlt : 2 ^ s < 18446744073709551616 := by rw [← e64]; exact Nat.pow_lt_pow_right (by decide) hs
  rw [dg_nat]
  by_cases c : j = q
  · subst c
    rw [if_pos rfl, Nat.pow_add, Nat.mul_div_cancel_left _ (pow_pos _), Nat.mod_eq_of_lt hlt]
  · rw [if_neg c]
    by_cases c2 : j < q
    · obtain ⟨d, rfl⟩ : ∃ d, q = j + (d + 1) := ⟨q - j - 1, by omega⟩
      have e : 64 * (j + (d + 1)) + s = 64 * j + (64 + (64 * d + s)) := by omega
      rw [e, Nat.pow_add, Nat.mul_div_cancel_left _ (pow_pos _), Nat.pow_add, e64, Nat.mul_mod_right]; rfl
    · rw [Nat.div_eq_of_lt (Nat.pow_lt_pow_right (by decide) (by omega))]; rfl

theorem encF_get (f : Nat → Int) (k : Nat) : (encF f)[k]? = if k < 66 then some (.int .u64 (f k)) else none := by
  unfold encF
  by_cases c : k < 66
  · rw [if_pos c]
    have := enW_get ZF 0 f k c (by rw [ZF_size]; omega)
    rw [Nat.zero_add] at this; exact this
  · rw [if_neg c, enW_out _ _ _ _ (by omega)]
    simp [ZF]; omega
theorem encF_one (f : Nat → Int) : (encF f).all (·.oneCell') = true := by
  rw [Array.all_eq_true]
  intro j hj
  have h := encF_get f j
  rw [encF_size] at hj
  rw [if_pos hj] at h
  have h2 : (encF f)[j]'(by rw [encF_size]; exact hj) = .int .u64 (f j) := by
    rw [Array.getElem?_eq_getElem (by rw [encF_size]; exact hj)] at h
    exact Option.some.inj h
  rw [h2]; rfl
theorem encF_congr (f g : Nat → Int) (h : ∀ j, j < 66 → f j = g j) : encF f = encF g := enW_congr _ _ _ _ h (by rw [ZF_size]; omega)
theorem encF_set (f : Nat → Int) (k : Nat) (v : Int) (hk : k < 66) : (encF f).setIfInBounds k (.int .u64 v) = encF (upd f k v) := by
  have := enW_set ZF 0 f k v hk (by rw [ZF_size]; omega)
  rw [Nat.zero_add] at this; exact this
theorem encF_clr (f : Nat → Int) (o : Nat) (ho : o ≤ 66) : clr (encF f) o = encF (fun j => if j < o then f j else 0) := by
  unfold clr
  apply Array.ext_getElem?
  intro k
  rw [encF_get]
  simp only [List.getElem?_toArray, List.getElem?_append, List.length_take, Array.length_toList, encF_size]
  rw [show min o 66 = o by omega]
  by_cases c : k < o
  · rw [if_pos c, List.getElem?_take, if_pos c, Array.getElem?_toList, encF_get, if_pos (by omega), if_pos (by omega), if_pos c]
  · rw [if_neg c, List.getElem?_replicate]
    by_cases c2 : k < 66
    · rw [if_pos c2, if_neg c, if_pos (by omega)]
    · rw [if_neg c2, if_neg (by omega)]
theorem ZF_encF : ZF = encF (fun _ => 0) := by
  apply Array.ext_getElem?
  intro k
  rw [encF_get]
  by_cases c : k < 66
  · simp [ZF, c]
  · simp [ZF, c]

/-- THE BITS BELOW A PLACE -/
theorem below_at (V p : Nat) (w : World) (hp : p < 3200) :
    Calls Try.prog 52 #[.agg (encF (dg (V : Int))), .int .i64 (p : Int)] w fun e w' => e = .returned (.agg (encF (dg ((V % 2 ^ p : Nat) : Int)))) ∧ Below w.heap.size w w' := by
  obtain ⟨q, hq⟩ : ∃ q, p / 64 = q := ⟨_, rfl⟩
  obtain ⟨s, hs⟩ : ∃ q, p % 64 = q := ⟨_, rfl⟩
  have hpq : p = 64 * q + s := by omega
  have hm := and_mask (V / 2 ^ (64 * q) % 18446744073709551616) s (Nat.mod_lt _ (by decide)) (by omega)
  refine below_go _ ((q : Nat) : Int) ((s : Nat) : Int) _ _ _ w (by omega) (by omega) (by omega) (by omega) (by omega) (by omega) (by omega) (by omega) (encF_size _) ?_ hm _ ?_ (encF_size _) (encF_one _)
  · rw [Int.toNat_natCast, encF_get, if_pos (by omega), dg_nat]
  · show clr _ _ = _
    rw [Int.toNat_natCast, show ((q : Int) + 1).toNat = q + 1 by omega, encF_set _ _ _ (by omega), encF_clr _ _ (by omega)]
    refine encF_congr _ _ (fun j hj => ?_)
    rw [hpq, dg_below V q s j (by omega)]
    unfold upd
    by_cases c : j < q
    · rw [if_pos (by omega), if_neg (by omega), if_pos c]
    · rw [if_neg c]
      by_cases c2 : j = q
      · rw [if_pos (by omega), if_pos c2, if_pos c2]
      · rw [if_neg (by omega), if_neg c2]

set_option maxHeartbeats 2000000 in
theorem bit_go (q s p v : Int) (w : World) (hp0 : 0 ≤ p) (hp : p < 3200) (hq : p / 64 = q) (hs : p % 64 = s) (_s1 : s < 64) (q0 : 0 ≤ q) (q1 : q < 64) (hv : IntKind.u64.wrap (2 ^ s.toNat) = v)
    (D : Array Value) (hD : Hid (ZF.setIfInBounds q.toNat (.int .u64 v) = D)) (hD1 : Hid (D.size = 66)) (hD2 : Hid (D.all (·.oneCell') = true)) :
    Calls Try.prog 53 #[.int .i64 p] w fun e w' => e = .returned (.agg D) ∧ Below w.heap.size w w' := by
  go_enter Try.func53, Try.ntmps53
  go_upto_region 0 with fail
  rename_i K hK
  apply wp_region_lit
  refine wpList_alloc_row rfl 54 rfl ZF zero_fixed ?_
  apply wpList_nil
  refine hK _ _ ?_
  clear hK K
  go_upto_region 1 with fail
  rename_i K hK
  apply wp_region_lit
  refine wpList_alloc_row rfl 54 rfl ZF zero_fixed ?_
  apply wpList_nil
  refine hK _ _ ?_
  clear hK K
  have hsz : (w.alloc (.cells ZF 54)).heap.size = w.heap.size + 1 := by simp
  rw [hsz]
  have hh : ((w.alloc (.cells ZF 54)).alloc (.cells ZF 54)).heap[w.heap.size + 1]? = some (.cells ZF 54) := heap_alloc2_new _ _ _
  have hz : ZF[q.toNat]? = some (.int .u64 0) := by rw [ZF_encF, encF_get, if_pos (by omega)]
  have c1 : ((w.alloc (.cells ZF 54)).alloc (.cells ZF 54)).cell? ⟨w.heap.size + 1, q.toNat, none⟩ = some (.int .u64 0) := by
    rw [cell_of_row _ _ _ _ _ _ hh]; exact hz
  have f1 : ((w.alloc (.cells ZF 54)).alloc (.cells ZF 54)).frozen? ⟨w.heap.size + 1, q.toNat, none⟩ = false := frozen_of_row _ _ _ _ _ hh
  clear hz hh hsz
  go_upto_region 3 with fail
  rename_i K hK
  apply wp_region_lit
  rw [hD.out]
  have hr1 : ((w.alloc (.cells ZF 54)).alloc (.cells D 54)).heap[w.heap.size + 1]? = some (.cells D 54) := heap_alloc2_new _ _ _
  have hr2 : ((w.alloc (.cells ZF 54)).alloc (.cells D 54)).heap[w.heap.size]? = some (.cells ZF 54) := heap_alloc2_old _ _ _
  refine wpList_load_row rfl 54 _ rfl (w.heap.size + 1) rfl 54 D (0, 0) _ hr1 Try.underlying54 rfl (by rw [hD1.out]; exact size_fixed) ?_
  refine wpList_store_row rfl 54 _ _ rfl w.heap.size D rfl rfl 54 ZF hr2 (by rw [hD1.out]; exact size_fixed) (by rw [hD1.out, ZF_size]) hD2.out ?_
  apply wpList_nil
  refine hK _ _ ?_
  clear hK K
  apply wp_ret
  have hrow := setRow_heap _ w.heap.size _ D _ (0, 0) hr2
  refine bodyPost_ret (v := .agg D) ?_ rfl ⟨rfl, ?_⟩
  · exact results_cell_row Try.results53 _ _ w.heap.size _ D (0, 0) _ rfl hrow Try.underlying54 rfl (by rw [hD1.out]; exact size_fixed)
  · refine (((Below.refl _ _).alloc (by omega) (.cells ZF 54)).alloc (by simp) (.cells D 54)).trans ⟨rfl, rfl, rfl, by simp [World.setRow], fun k hk => ?_⟩
    rw [setRow_other _ _ _ _ (by omega)]
/-- ONE BIT -/
theorem bit_at (p : Nat) (w : World) (hp : p < 3200) :
    Calls Try.prog 53 #[.int .i64 (p : Int)] w fun e w' => e = .returned (.agg (encF (dg ((2 ^ p : Nat) : Int)))) ∧ Below w.heap.size w w' := by
  obtain ⟨q, hq⟩ : ∃ q, p / 64 = q := ⟨_, rfl⟩
  obtain ⟨s, hs⟩ : ∃ q, p % 64 = q := ⟨_, rfl⟩
  have hpq : p = 64 * q + s := by omega
  have hlt : 2 ^ s < 18446744073709551616 := by rw [← e64]; exact Nat.pow_lt_pow_right (by decide) (by omega)
  refine bit_go ((q : Nat) : Int) ((s : Nat) : Int) _ ((2 ^ s : Nat) : Int) w (by omega) (by omega) (by omega) (by omega) (by omega) (by omega) (by omega) ?_ _ ?_ (encF_size _) (encF_one _)
  · rw [u64wr, Int.toNat_natCast, two_pow_cast]
    generalize 2 ^ s = z at *
    omega
  · show ZF.setIfInBounds _ _ = _
    rw [ZF_encF, Int.toNat_natCast, encF_set _ _ _ (by omega)]
    refine encF_congr _ _ (fun j hj => ?_)
    rw [hpq, dg_one q s j (by omega)]
    rfl

theorem info_u64 : ∃ i, Try.prog.info? 46 = some i := by
  cases h : Try.prog.info? 46 with
  | none =>
    exfalso
    have : (Try.prog.info? 46).isSome = true := by kernel_rfl
    rw [h] at this; cases this
  | some i => exact ⟨i, rfl⟩
/-- arrays compared -/
theorem items_eq (f g : Nat → Int) (d : Nat) (w : World) : ∀ is : List Nat, (∀ i ∈ is, i < 66) →
    (Op.eqItems (d + 1) 46 (Try.prog.cellsOf 46) (encF f) (encF g) is).run Try.prog w = .ok (is.all fun i => f i == g i) w := by
  have k0 : Try.prog.cellsOf 46 = 1 := by kernel_rfl
  have hp : Try.prog.plainKey 46 = true := by kernel_rfl
  intro is
  rw [k0]
  induction is with
  | nil => intro _; simp [Op.eqItems]
  | cons i is ih =>
    intro h
    have hi := h i (by simp)
    have p1 : (part 46 (encF f) (i * 1)).run Try.prog w = .ok (.int .u64 (f i)) w := run_part_plain w hp (by rw [Nat.mul_one, encF_get, if_pos hi])
    have p1' : (part 46 (encF g) (i * 1)).run Try.prog w = .ok (.int .u64 (g i)) w := run_part_plain w hp (by rw [Nat.mul_one, encF_get, if_pos hi])
    have p2 : (Op.equalIn (d + 1) 46 (.int .u64 (f i)) (.int .u64 (g i))).run Try.prog w = .ok (f i == g i) w := run_equalIn_int w d 46 .u64 .u64 (f i) (g i) Try.underlying46
    have p3 := ih (fun j hj => h j (by simp [hj]))
    simp only [Op.eqItems, Sem.run_bind, p1, p1', p2, Result.andThen_ok]
    cases hb : f i == g i
    · simp [hb]
    · simp [hb, p3]
theorem fixed_eq (f g : Nat → Int) (w : World) : (Op.equalIn 10000 54 (.agg (encF f)) (.agg (encF g))).run Try.prog w = .ok ((List.range 66).all fun i => f i == g i) w := by
  obtain ⟨i, hi⟩ := info_u64
  rw [show (10000 : Nat) = 9999 + 1 from rfl, run_equalIn_array w 9999 (encF f) (encF g) Try.underlying54 hi]
  exact items_eq f g 9998 w (List.range 66) (fun i hi => by simpa using hi)
theorem fixed_guard : Try.prog.eqGuardType Try.prog.depth 54 = false := by kernel_rfl
end Go.Proofs.Ytgbnabpbheebjaa
