/-
  The bits from a place on, and below it: walks over the program.
-/
import Derived.Test.YtgbnabpbheebjaaGp
namespace Go.Proofs.Ytgbnabpbheebjaa
open Go.RowKit Tf
attribute [local go_sem] run_bits run_from raw_feq raw_fne raw_flt raw_fgt run_neg

theorem info_fixed : (Try.prog.info? 54).map (fun i => (i.zero, i.size)) = some (some (.agg (Array.replicate 66 (.int .u64 0))), 66) := by kernel_rfl
theorem zero_fixed (w : World) : (zeroValue 54).run Try.prog w = .ok (.agg ZF) w := (zero_of_info info_fixed).1 w
theorem size_fixed : (Try.prog.info? 54).map (·.size) = some 66 := (zero_of_info info_fixed).2

theorem or_add' (a b s : Nat) (hb : b < 2 ^ s) (h : a * 2 ^ s + b < 18446744073709551616) : bits .or .u64 (b : Int) ((a * 2 ^ s : Nat) : Int) = ((a * 2 ^ s + b : Nat) : Int) := by
  rw [← or_add a b s hb h]
  show IntKind.u64.wrap ((BitVec.ofInt 64 (b : Int) ||| BitVec.ofInt 64 ((a * 2 ^ s : Nat) : Int)).toNat : Int) = IntKind.u64.wrap ((BitVec.ofInt 64 ((a * 2 ^ s : Nat) : Int) ||| BitVec.ofInt 64 (b : Int)).toNat : Int)
  rw [BitVec.or_comm]
set_option maxHeartbeats 2000000 in
theorem from_go (C : Array Value) (q s p a b r : Int) (w : World) (hp0 : 0 ≤ p) (hp : p < 3200) (hq : p / 64 = q) (hs : p % 64 = s) (s0 : 0 < s) (_s1 : s < 64) (q0 : 0 ≤ q) (q1 : q < 64)
    (c1 : (w.alloc (.cells C 54)).cell? ⟨w.heap.size, q.toNat, none⟩ = some (.int .u64 a)) (c2 : (w.alloc (.cells C 54)).cell? ⟨w.heap.size, (q + 1).toNat, none⟩ = some (.int .u64 b))
    (hr : bits .or .u64 (a / 2 ^ s.toNat) (IntKind.u64.wrap (b * 2 ^ (64 - s).toNat)) = r) :
    Calls Try.prog 51 #[.agg C, .int .i64 p] w fun e w' => e = .returned (.int .u64 r) ∧ w' = (w.alloc (.cells C 54)).drew := by
  go_enter Try.func51, Try.ntmps51
  go_wp2
  go_region
  go_wp2
  go_ret
  exact ⟨rfl, rfl⟩
set_option maxHeartbeats 2000000 in
theorem from_go0 (C : Array Value) (q p a b r : Int) (w : World) (hp0 : 0 ≤ p) (hp : p < 3200) (hq : p / 64 = q) (hs : p % 64 = 0) (q0 : 0 ≤ q) (_q1 : q < 64)
    (c1 : (w.alloc (.cells C 54)).cell? ⟨w.heap.size, q.toNat, none⟩ = some (.int .u64 a)) (c2 : (w.alloc (.cells C 54)).cell? ⟨w.heap.size, (q + 1).toNat, none⟩ = some (.int .u64 b))
    (hr : bits .or .u64 a (IntKind.u64.wrap (b * 18446744073709551616)) = r) :
    Calls Try.prog 51 #[.agg C, .int .i64 p] w fun e w' => e = .returned (.int .u64 r) ∧ w' = (w.alloc (.cells C 54)).drew := by
  go_enter Try.func51, Try.ntmps51
  go_wp2
  go_region
  go_wp2
  go_ret
  exact ⟨rfl, rfl⟩
theorem dg_nat (V i : Nat) : dg (V : Int) i = ((V / 2 ^ (64 * i) % 18446744073709551616 : Nat) : Int) := by
  unfold dg
  rw [Int.natCast_emod, Int.natCast_ediv]; rfl
/-- a word out of two -/
theorem from_words (Y S P : Nat) (hPS : P * S = 18446744073709551616) (hS : 0 < S) (_hP : 0 < P) :
    Y % 18446744073709551616 / S < P ∧ Y / 18446744073709551616 % 18446744073709551616 * P % 18446744073709551616 = Y / 18446744073709551616 % S * P ∧
    Y / 18446744073709551616 % S * P + Y % 18446744073709551616 / S < 18446744073709551616 ∧ Y / S % 18446744073709551616 = Y / 18446744073709551616 % S * P + Y % 18446744073709551616 / S := by
  rw [← hPS]
  have hW : 0 < P * S := by rw [hPS]; omega
  have ha : Y % (P * S) / S < P := Nat.div_lt_of_lt_mul (by rw [Nat.mul_comm S]; exact Nat.mod_lt _ hW)
  have hb := Nat.mod_lt (Y / (P * S)) hS
  have hlt : Y / (P * S) % S * P + Y % (P * S) / S < P * S := by
    have : (Y / (P * S) % S + 1) * P ≤ S * P := Nat.mul_le_mul_right P hb
    rw [Nat.add_mul, Nat.one_mul, Nat.mul_comm S P] at this; omega
  have e1 : Y / S = Y / (P * S) * P + Y % (P * S) / S := by
    have h := Nat.div_add_mod Y (P * S)
    have e : Y = Y % (P * S) + (Y / (P * S) * P) * S := by
      rw [Nat.mul_assoc, Nat.mul_comm (Y / (P * S))]; omega
    conv => lhs; rw [e]
    rw [Nat.add_mul_div_right _ _ hS, Nat.add_comm]
  have e2 : Y / (P * S) * P = Y / (P * S) % S * P + Y / (P * S) / S * (P * S) := by
    have h := Nat.div_add_mod (Y / (P * S)) S
    have e : Y / (P * S) = Y / (P * S) % S + Y / (P * S) / S * S := by rw [Nat.mul_comm (Y / (P * S) / S)]; omega
    conv => lhs; rw [e]
    rw [Nat.add_mul, Nat.mul_assoc, Nat.mul_comm S P]
  refine ⟨ha, ?_, hlt, ?_⟩
  · rw [show Y / (P * S) % (P * S) * P % (P * S) = Y / (P * S) * P % (P * S) by rw [Nat.mul_mod, Nat.mod_mod, ← Nat.mul_mod], e2, Nat.add_mul_mod_self_right, Nat.mod_eq_of_lt (Nat.lt_of_le_of_lt (Nat.le_add_right _ _) hlt)]
  · rw [e1, e2, show Y / (P * S) % S * P + Y / (P * S) / S * (P * S) + Y % (P * S) / S = (Y / (P * S) % S * P + Y % (P * S) / S) + Y / (P * S) / S * (P * S) by omega, Nat.add_mul_mod_self_right, Nat.mod_eq_of_lt hlt]
/-- THE BITS FROM A PLACE ON -/
theorem from_at (V p : Nat) (w : World) (hp : p < 3200) :
    Calls Try.prog 51 #[.agg (encF (dg (V : Int))), .int .i64 (p : Int)] w fun e w' => e = .returned (.int .u64 ((V / 2 ^ p % 18446744073709551616 : Nat) : Int)) ∧ w' = (w.alloc (.cells (encF (dg (V : Int))) 54)).drew := by
  have hh : (w.alloc (.cells (encF (dg (V : Int))) 54)).heap[w.heap.size]? = some (.cells (encF (dg (V : Int))) 54) := heap_alloc_new _ _
  obtain ⟨q, hq⟩ : ∃ q, p / 64 = q := ⟨_, rfl⟩
  obtain ⟨s, hs⟩ : ∃ q, p % 64 = q := ⟨_, rfl⟩
  have c1 := encF_cell _ q _ _ _ hh (by omega)
  have c2 := encF_cell _ (q + 1) _ _ _ hh (by omega)
  have hpq : p = 64 * q + s := by omega
  have hV : V / 2 ^ p = V / 2 ^ (64 * q) / 2 ^ s := by rw [hpq, Nat.pow_add, Nat.div_div_eq_div_mul]
  have hb : V / 2 ^ (64 * (q + 1)) = V / 2 ^ (64 * q) / 18446744073709551616 := by
    rw [show 64 * (q + 1) = 64 * q + 64 by omega, Nat.pow_add, show (2 : Nat) ^ 64 = 18446744073709551616 by decide, Nat.div_div_eq_div_mul]
  rw [dg_nat] at c1 c2
  rw [hb] at c2
  rw [hV]
  have hPS : 2 ^ (64 - s) * 2 ^ s = 18446744073709551616 := by rw [← Nat.pow_add, show 64 - s + s = 64 by omega]
  obtain ⟨w1, w2, w3, w4⟩ := from_words (V / 2 ^ (64 * q)) (2 ^ s) (2 ^ (64 - s)) hPS (pow_pos _) (pow_pos _)
  generalize V / 2 ^ (64 * q) = Y at *
  by_cases c : s = 0
  · subst c
    rw [Nat.pow_zero, Nat.div_one]
    refine from_go0 _ ((q : Nat) : Int) _ _ _ _ w (by omega) (by omega) (by omega) (by omega) (by omega) (by omega) c1 c2 ?_
    rw [u64wr, Int.mul_emod_left]
    have hlt : Y % 18446744073709551616 < 18446744073709551616 := Nat.mod_lt _ (by decide)
    generalize Y % 18446744073709551616 = y at *
    have := or_add' 0 y 64 (by rw [show (2 : Nat) ^ 64 = 18446744073709551616 by decide]; exact hlt) (by rw [Nat.zero_mul, Nat.zero_add]; exact hlt)
    rw [Nat.zero_mul, Nat.zero_add] at this
    exact this
  · refine from_go _ ((q : Nat) : Int) ((s : Nat) : Int) _ _ _ _ w (by omega) (by omega) (by omega) (by omega) (by omega) (by omega) (by omega) (by omega) c1 (by rw [show ((q : Int) + 1).toNat = q + 1 by omega]; exact c2) ?_
    have e1 : (64 - (s : Int)).toNat = 64 - s := by omega
    have h := or_add' _ _ _ w1 w3
    rw [w4, ← h, u64wr, Int.toNat_natCast, e1, two_pow_cast, two_pow_cast, ← Int.natCast_mul]
    congr 1
    rw [← w2]; omega
theorem run_slice_up (g : Nat) (l : Int) (h0 : 0 ≤ l) (h1 : l < 66) (w : World) :
    (Instr.sliceAt 54 (.pointer (some ⟨g, 0, none⟩)) (some (.int .i64 l)) none none).run Try.prog w = .ok (.slice (some ⟨g, l.toNat, none⟩) (66 - l.toNat) (66 - l.toNat)) w := by
  have hu := run_underlying Try.underlying54 w
  have h2 : ¬ (66 : Nat) = l.toNat := by omega
  have h3 : l.toNat ≤ 66 := by omega
  have ha : (⟨g, 0, none⟩ : Addr).add l.toNat = ⟨g, l.toNat, none⟩ := by unfold Addr.add; split <;> simp_all
  have hb : (Instr.sliceBounds false 66 66 (some (.int .i64 l)) none none).run Try.prog w = .ok (l.toNat, 66, 66) w := by
    have h4 : l ≤ 66 := by omega
    simp [Instr.sliceBounds, Instr.sliceBound, asIntOf, h0, h4]
  simp [Instr.sliceAt, hu, Instr.sureAddr, hb, h2, ha]
theorem storeCells_up (g o : Nat) : ∀ (vs : List Value) (i : Nat), storeCells ⟨g, o, none⟩ vs i = storeCells ⟨g, 0, none⟩ vs (o + i)
  | [], _ => rfl
  | v :: r, i => by
    have h1 : (⟨g, o, none⟩ : Addr).add i = ⟨g, o + i, none⟩ := by unfold Addr.add; split <;> simp_all
    have h2 : (⟨g, 0, none⟩ : Addr).add (o + i) = ⟨g, o + i, none⟩ := by unfold Addr.add; split <;> simp_all
    unfold storeCells
    rw [storeCells_up g o r (i + 1), h1, h2, Nat.add_assoc]
def clr (D : Array Value) (o : Nat) : Array Value := (D.toList.take o ++ List.replicate (66 - o) (Value.int .u64 0)).toArray
theorem zeroCells_u64 (n : Nat) : (Builtin.zeroCells #[.int .u64 0] n).toList = List.replicate n (.int .u64 0) := by
  apply List.ext_getElem?
  intro i
  simp [Builtin.zeroCells, List.getElem?_replicate]
  by_cases h : i < n
  · simp [h, Nat.mod_one]
  · simp [h]
theorem run_clear (g o : Nat) (D : Array Value) (w : World) (T : TypeId) (hg : w.heap[g]? = some (.cells D T)) (hD : D.size = 66) (ho : o < 66) :
    (Builtin.clear_ #[68] 0 #[.slice (some ⟨g, o, none⟩) (66 - o) (66 - o)]).run Try.prog w = .ok (.tuple #[]) (w.setRow g (clr D o)) := by
  have hz : (zeroValue 46).run Try.prog w = .ok (.int .u64 0) w := by
    have : (Try.prog.info? 46).map (·.zero) = some (some (.int .u64 0)) := by kernel_rfl
    cases hq : Try.prog.info? 46 with
    | none => rw [hq] at this; cases this
    | some i => rw [hq] at this; simp at this; simp [zeroValue, typeInfo, hq, this]
  have hs := run_storeCells_from (P := Try.prog) g T (List.replicate (66 - o) (.int .u64 0)) o D w hg (by simp; omega) (fun v hv => by rw [List.eq_of_mem_replicate hv]; rfl)
  have hu := run_underlying Try.underlying68 w
  obtain ⟨n, hn⟩ : ∃ n, 66 - o = n + 1 := ⟨66 - o - 1, by omega⟩
  have hst : (storeCells ⟨g, o, none⟩ (Builtin.zeroCells (Value.int .u64 0).cells (66 - o)).toList 0).run Try.prog w = .ok () (w.setRow g (clr D o)) := by
    rw [storeCells_up, Nat.add_zero]
    show (storeCells ⟨g, 0, none⟩ (Builtin.zeroCells #[.int .u64 0] (66 - o)).toList o).run _ _ = _
    rw [zeroCells_u64]; exact hs
  rw [hn] at hst ⊢
  unfold Builtin.clear_
  simp [hu, hz, hst]
set_option maxHeartbeats 2000000 in
theorem below_go (C : Array Value) (q s p a v : Int) (w : World) (hp0 : 0 ≤ p) (hp : p < 3200) (hq : p / 64 = q) (hs : p % 64 = s) (_s0 : 0 ≤ s) (_s1 : s < 64) (q0 : 0 ≤ q) (q1 : q < 64)
    (hC : C.size = 66) (ha : C[q.toNat]? = some (.int .u64 a)) (hv : bits .and .u64 a (IntKind.u64.wrap (IntKind.u64.wrap (2 ^ s.toNat) - 1)) = v)
    (D : Array Value) (hD : Hid (clr (C.setIfInBounds q.toNat (.int .u64 v)) (q + 1).toNat = D)) (hD1 : Hid (D.size = 66)) (hD2 : Hid (D.all (·.oneCell') = true)) :
    Calls Try.prog 52 #[.agg C, .int .i64 p] w fun e w' => e = .returned (.agg D) ∧ Below w.heap.size w w' := by
  go_enter Try.func52, Try.ntmps52
  go_upto_region 0 with fail
  rename_i K hK
  apply wp_region_lit
  refine wpList_box rfl 54 _ rfl C rfl ?_
  refine wpList_alloc_row rfl 54 rfl ZF zero_fixed ?_
  apply wpList_nil
  refine hK _ _ ?_
  clear hK K
  have hh : ((w.alloc (.cells C 54)).alloc (.cells ZF 54)).heap[w.heap.size]? = some (.cells C 54) := heap_alloc2_old _ _ _
  have c1 : ((w.alloc (.cells C 54)).alloc (.cells ZF 54)).cell? ⟨w.heap.size, q.toNat, none⟩ = some (.int .u64 a) := by
    rw [cell_of_row _ _ _ _ _ _ hh]; exact ha
  have f1 : ((w.alloc (.cells C 54)).alloc (.cells ZF 54)).frozen? ⟨w.heap.size, q.toNat, none⟩ = false := frozen_of_row _ _ _ _ _ hh
  have hsl := fun W => run_slice_up w.heap.size (q + 1) (by omega) (by omega) W
  have hcl := run_clear w.heap.size (q + 1).toNat (C.setIfInBounds q.toNat (.int .u64 v)) ((w.alloc (.cells (C.setIfInBounds q.toNat (.int .u64 v)) 54)).alloc (.cells ZF 54)) 54 (heap_alloc2_old _ _ _) (by simp [hC]) (by omega)
  rw [hD.out] at hcl
  have HC := hid hC
  clear ha hC hh
  go_upto_region 4 with fail
  rename_i K hK
  apply wp_region_lit
  have hr1 : (((w.alloc (.cells (C.setIfInBounds q.toNat (.int .u64 v)) 54)).alloc (.cells ZF 54)).setRow w.heap.size D).heap[w.heap.size]? = some (.cells D 54) := setRow_heap _ _ _ _ _ _ (heap_alloc2_old _ _ _)
  have hr2 : (((w.alloc (.cells (C.setIfInBounds q.toNat (.int .u64 v)) 54)).alloc (.cells ZF 54)).setRow w.heap.size D).heap[w.heap.size + 1]? = some (.cells ZF 54) := by
    rw [setRow_other _ _ _ _ (by omega)]; exact heap_alloc2_new _ _ _
  refine wpList_load_row rfl 54 _ rfl w.heap.size rfl 54 D (0, 0) _ hr1 Try.underlying54 rfl (by rw [hD1.out]; exact size_fixed) ?_
  refine wpList_store_row rfl 54 _ _ rfl (w.heap.size + 1) D rfl rfl 54 ZF hr2 (by rw [hD1.out]; exact size_fixed) (by rw [hD1.out, ZF_size]) hD2.out ?_
  apply wpList_nil
  refine hK _ _ ?_
  clear hK K
  apply wp_ret
  have hrow := setRow_heap _ (w.heap.size + 1) _ D _ (0, 0) hr2
  refine bodyPost_ret (v := .agg D) ?_ rfl ⟨rfl, ?_⟩
  · exact results_cell_row Try.results52 _ _ (w.heap.size + 1) _ D (0, 0) _ rfl hrow Try.underlying54 rfl (by rw [hD1.out]; exact size_fixed)
  · refine (((Below.refl _ _).alloc (by omega) (.cells (C.setIfInBounds q.toNat (.int .u64 v)) 54)).alloc (by simp) (.cells ZF 54)).trans ⟨rfl, rfl, rfl, by simp [World.setRow], fun k hk => ?_⟩
    rw [setRow_other _ _ _ _ (by omega), setRow_other _ _ _ _ (by omega)]
end Go.Proofs.Ytgbnabpbheebjaa
