/-
  The words carried on: a walk over the program.
-/
import Derived.Test.YtcamlhpehnfnlabVc
import Derived.Deep.WholeRow
import Derived.Deep.Cut
import Derived.Laws.StructEq
namespace Go.Proofs.Ytcamlhpehnfnlab
open Go.RowKit Tf
attribute [local go_sem] run_bits run_from raw_feq raw_fne raw_flt raw_fgt run_neg

theorem info_words : (Try.prog.info? 32).map (fun i => (i.zero, i.size)) = some (some (.agg (Array.replicate 150 (.int .u64 0))), 150) := by kernel_rfl
theorem rep_enc : Array.replicate 150 (Value.int .u64 0) = enc (fun _ => 0) := by
  apply Array.ext_getElem?
  intro i
  by_cases c : i < 150
  · rw [enc_get _ _ c]; simp [c]
  · have h2 : (enc (fun _ => 0))[i]? = none := by simp [enc_size]; omega
    rw [h2]; simp; omega
theorem zero_words (w : World) : (zeroValue 32).run Try.prog w = .ok (.agg (enc (fun _ => 0))) w := by
  rw [← rep_enc]; exact (zero_of_info info_words).1 w
theorem size_words : (Try.prog.info? 32).map (·.size) = some 150 := (zero_of_info info_words).2

/-- the words so far -/
def sofar (V : Int) (i : Nat) : Nat → Int := fun j => if j < i then dig V j else 0

set_option maxHeartbeats 1000000 in
theorem carried_go (g : Nat) (f : Nat → Int) (V : Int) (w : World) (hg : w.heap[g]? = some (.cells (enc f) 32)) (hf : Hid (∀ i, 0 ≤ f i ∧ f i ≤ 1152921504606846976)) (hV : Hid (valN f 150 = V)) :
    Calls Try.prog 13 #[.pointer (some ⟨g, 0, none⟩)] w fun e w' => e = .returned (.agg (enc (dig V))) ∧ Below w.heap.size w w' := by
  have hz := fun (w : World) => zero_words w
  have HG := hid hg
  clear hg
  go_enter Try.func13, Try.ntmps13
  go_wp2
  have hgs := row_lt _ _ _ HG.out
  go_loopw [4, 5] (fun cv iv wr => ∃ i : Nat, i ≤ 150 ∧ cv = .int .u64 (cr f i) ∧ iv = .int .i64 i ∧ wr.heap[w.heap.size]? = some (.cells (enc (fun _ => 0)) 32) ∧ wr.heap[w.heap.size + 1]? = some (.cells (enc (sofar V i)) 32) ∧ Below w.heap.size w wr) (fun _ iv _ => 150 - (intOf iv).toNat)
  case atStart =>
    refine ⟨0, by omega, by rw [cr_zero], rfl, heap_alloc2_old _ _ _, ?_, ((Below.refl _ _).alloc (by omega) _).alloc (by simp) _⟩
    rw [heap_alloc2_new]
    have : enc (sofar V 0) = enc (fun _ => 0) := enc_congr _ _ (fun j _ => by unfold sofar; rw [if_neg (by omega)])
    rw [this]
  case round =>
    obtain ⟨i, hi, rfl, rfl, r1, r2, hbel⟩ := hrel
    by_cases hlt : i < 150
    · have cg : wr.cell? ⟨g, i, none⟩ = some (.int .u64 (f i)) := by rw [hbel.cell (p := ⟨g, i, none⟩) hgs]; exact row_cell g i f _ w HG.out hlt
      have co : wr.cell? ⟨w.heap.size + 1, i, none⟩ = some (.int .u64 (sofar V i i)) := row_cell _ i _ _ wr r2 hlt
      have fo : wr.frozen? ⟨w.heap.size + 1, i, none⟩ = false := row_frozen _ i _ _ wr r2
      have b1 := cr_bound f 1152921504606846976 hf.out i
      have b2 := hf.out i
      have s1 := hid (cr_succ f i)
      have s2 : Hid ((cr f i + f i) % 4294967296 = dig V i) := by rw [← hV.out]; exact dig_eq f i 150 hlt
      have R1 := hid r1
      have R2 := hid r2
      have HB := hid hbel
      clear r1 r2 hbel hz HG
      generalize cr f i = c at *
      generalize f i = y at *
      obtain ⟨c0, c1⟩ := b1
      obtain ⟨y0, y1⟩ := b2
      obtain ⟨u, hu⟩ : ∃ u, sofar V i i = u := ⟨_, rfl⟩
      rw [hu] at co
      have HL := hid hlt
      have il : (i : Int) < 150 := by omega
      clear hlt hi hu
      go_wp2
      have hl := HL.out
      refine ⟨⟨i + 1, by omega, by rw [s1.out], by simp, ?_, ?_, HB.out.setCell (by simp) _⟩, by simp [intOf]; omega⟩
      · rw [Below.heap_setCell _ _ _ _ (by simp)]; exact R1.out
      · rw [row_set _ i _ _ _ _ R2.out hl, s2.out]
        have : enc (upd (sofar V i) i (dig V i)) = enc (sofar V (i + 1)) := enc_congr _ _ (fun j _ => by
          unfold upd sofar
          by_cases c : j = i
          · subst c; rw [if_pos rfl, if_pos (by omega)]
          · rw [if_neg c]
            by_cases c2 : j < i
            · rw [if_pos c2, if_pos (by omega)]
            · rw [if_neg c2, if_neg (by omega)])
        rw [this]
    · have e := hid (show i = 150 by omega)
      have il : decide ((i : Int) < 150) = false := decide_eq_false (by omega)
      generalize cr f i = c at *
      have R1 := hid r1
      have R2 := hid r2
      have HB := hid hbel
      clear r1 r2 hbel hz HG hi hlt
      go_upto_region 9 with fail
      rename_i K hK
      apply wp_region_lit
      refine wpList_load_row rfl 32 _ rfl (w.heap.size + 1) rfl 32 (enc (sofar V i)) (0, 0) _ R2.out Try.underlying32 rfl (by rw [enc_size]; exact size_words) ?_
      refine wpList_store_row rfl 32 _ _ rfl w.heap.size (enc (sofar V i)) rfl rfl 32 (enc (fun _ => 0)) R1.out (by rw [enc_size]; exact size_words) (by rw [enc_size, enc_size]) (by rw [Array.all_eq_true]; intro j hj; simp [enc]; rfl) ?_
      apply wpList_nil
      refine hK _ _ ?_
      clear hK K
      apply wp_ret
      have hrow := setRow_heap wr w.heap.size (enc (fun _ => 0)) (enc (sofar V i)) _ (0, 0) R1.out
      refine bodyPost_ret (v := .agg (enc (sofar V i))) ?_ rfl ⟨?_, ?_⟩
      · exact results_cell_row Try.results13 _ _ w.heap.size _ (enc (sofar V i)) (0, 0) _ rfl hrow Try.underlying32 rfl (by rw [enc_size]; exact size_words)
      · have : enc (sofar V i) = enc (dig V) := enc_congr _ _ (fun j hj => by unfold sofar; rw [e.out, if_pos hj])
        rw [this]
      · refine HB.out.trans ⟨rfl, rfl, rfl, by simp [World.setRow], fun k hk => ?_⟩
        exact setRow_other wr w.heap.size k _ (by omega)

/-- equal words are equal arrays -/
theorem items_eq (c : Array Value) (hc : ∀ i, i < 150 → ∃ a : Int, c[i]? = some (.int .u64 a)) (d : Nat) (w : World) : ∀ is : List Nat, (∀ i ∈ is, i < 150) →
    (Op.eqItems (d + 1) 30 (Try.prog.cellsOf 30) c c is).run Try.prog w = .ok true w := by
  have k0 : Try.prog.cellsOf 30 = 1 := by kernel_rfl
  have hp : Try.prog.plainKey 30 = true := by kernel_rfl
  intro is
  rw [k0]
  induction is with
  | nil => intro _; simp [Op.eqItems]
  | cons i is ih =>
    intro h
    obtain ⟨a, ha⟩ := hc i (h i (by simp))
    have p1 : (part 30 c (i * 1)).run Try.prog w = .ok (.int .u64 a) w := run_part_plain w hp (by rw [Nat.mul_one]; exact ha)
    have p2 : (Op.equalIn (d + 1) 30 (.int .u64 a) (.int .u64 a)).run Try.prog w = .ok (a == a) w := run_equalIn_int w d 30 .u64 .u64 a a Try.underlying30
    have p3 := ih (fun j hj => h j (by simp [hj]))
    simp only [Op.eqItems, Sem.run_bind, p1, p2, Result.andThen_ok]
    simpa using p3
theorem info_u64 : ∃ i, Try.prog.info? 30 = some i := by
  cases h : Try.prog.info? 30 with
  | none =>
    exfalso
    have : (Try.prog.info? 30).isSome = true := by kernel_rfl
    rw [h] at this; cases this
  | some i => exact ⟨i, rfl⟩
theorem words_eq (d : Nat → Int) (w : World) : (Op.equalIn 10000 32 (.agg (enc d)) (.agg (enc d))).run Try.prog w = .ok true w := by
  obtain ⟨i, hi⟩ := info_u64
  rw [show (10000 : Nat) = 9999 + 1 from rfl, run_equalIn_array w 9999 (enc d) (enc d) Try.underlying32 hi]
  exact items_eq (enc d) (fun i hi => ⟨d i, enc_get d i hi⟩) 9998 w (List.range 150) (fun i hi => by simpa using hi)
theorem words_guard : Try.prog.eqGuardType Try.prog.depth 32 = false := by kernel_rfl
theorem carried_at (g : Nat) (f : Nat → Int) (V : Int) (w : World) (B : Int) (hg : w.heap[g]? = some (.cells (enc f) 32)) (hf : ∀ i, 0 ≤ f i ∧ f i ≤ B) (hB : B ≤ 1152921504606846976) (hV : valN f 150 = V) :
    Calls Try.prog 13 #[.pointer (some ⟨g, 0, none⟩)] w fun e w' => e = .returned (.agg (enc (dig V))) ∧ Below w.heap.size w w' :=
  carried_go g f V w hg (fun i => ⟨(hf i).1, by have := (hf i).2; omega⟩) hV
end Go.Proofs.Ytcamlhpehnfnlab
