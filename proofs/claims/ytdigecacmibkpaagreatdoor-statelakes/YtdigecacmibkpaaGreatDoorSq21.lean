/-
  Some of the texts of this proof, one behind the other.
-/
import Derived.Test.YtdigecacmibkpaaGreatDoorSq20
set_option maxRecDepth 100000
set_option maxHeartbeats 400000000
namespace Go.Proofs.YtdigecacmibkpaaGreatDoor
open Go.RowKit Tf Cu Go.Deep
attribute [local go_sem] run_bits run_from raw_feq raw_fne raw_flt raw_fgt run_neg run_store_float
namespace Ss
theorem rlake_10 (side : Int) (pb : Option Addr) (lb cb : Nat) (l : Nat) (w : World) (hs : ¬ (1 <= side /\ side <= 32)) :
    Calls Tryz.prog 22 #[.int .i64 side, .slice pb lb cb, .float .f64 l] w fun e w' => e = .returned (.tuple #[.agg #[.slice none 0 0, .slice none 0 0, .slice none 0 0, .slice none 0 0, .int .i64 0, .int .i64 0], .int .i64 10]) /\ Below w.heap.size w w' := by
  by_cases h : side < 1
  · have d1 : decide (side < 1) = true := decide_eq_true h
    clear hs h
    have A0 : Hid (Ab w (w.alloc (.cells #[.slice none 0 0, .slice none 0 0, .slice none 0 0, .slice none 0 0, .int .i64 0, .int .i64 0] 33))) := bl1 _ _
    have Q0 : Hid ((w.alloc (.cells #[.slice none 0 0, .slice none 0 0, .slice none 0 0, .slice none 0 0, .int .i64 0, .int .i64 0] 33)).heap[w.heap.size]? = some (.cells #[.slice none 0 0, .slice none 0 0, .slice none 0 0, .slice none 0 0, .int .i64 0, .int .i64 0] 33)) := heap_alloc_new _ _
    go_enter Tryz.func22, Tryz.ntmps22
    go_upto_region 1 with fail
    generalize hW : World.alloc w _ = V0 at *
    obtain ⟨gr, hgr⟩ : ∃ g, w.heap.size = g := ⟨_, rfl⟩
    have HG : Hid (w.heap.size <= gr) := by show _ <= _; omega
    rw [hgr] at Q0 ⊢
    clear hgr hW
    have t0 := cell_of_row _ _ 0 _ _ _ Q0.out
    have t1 := cell_of_row _ _ 1 _ _ _ Q0.out
    have t2 := cell_of_row _ _ 2 _ _ _ Q0.out
    have t3 := cell_of_row _ _ 3 _ _ _ Q0.out
    have t4 := cell_of_row _ _ 4 _ _ _ Q0.out
    have t5 := cell_of_row _ _ 5 _ _ _ Q0.out
    have f0 := free_row Q0.out 0
    have f1 := free_row Q0.out 1
    have f2 := free_row Q0.out 2
    have f3 := free_row Q0.out 3
    have f4 := free_row Q0.out 4
    have f5 := free_row Q0.out 5
    go_wp2_with fail
    (try simp only [Exit.inBlock, Exit.then])
    refine bodyPost_ret (v := .tuple #[.agg #[.slice none 0 0, .slice none 0 0, .slice none 0 0, .slice none 0 0, .int .i64 0, .int .i64 0], .int .i64 10]) ?_ rfl ?_
    · exact res_two Tryz.results22 _ _ gr _ _ (0, 0) _ _ rfl rfl (row6 Q0.out) Tryz.underlying33 rfl (by kernel_rfl)
    · exact ⟨rfl, (((((A0.out.setk HG.out _).setk HG.out _).setk HG.out _).setk HG.out _).setk HG.out _).setk HG.out _⟩
  · have d1 : decide (side < 1) = false := decide_eq_false h
    have d2 : decide (32 < side) = true := decide_eq_true (by omega)
    clear hs h
    have A0 : Hid (Ab w (w.alloc (.cells #[.slice none 0 0, .slice none 0 0, .slice none 0 0, .slice none 0 0, .int .i64 0, .int .i64 0] 33))) := bl1 _ _
    have Q0 : Hid ((w.alloc (.cells #[.slice none 0 0, .slice none 0 0, .slice none 0 0, .slice none 0 0, .int .i64 0, .int .i64 0] 33)).heap[w.heap.size]? = some (.cells #[.slice none 0 0, .slice none 0 0, .slice none 0 0, .slice none 0 0, .int .i64 0, .int .i64 0] 33)) := heap_alloc_new _ _
    go_enter Tryz.func22, Tryz.ntmps22
    go_upto_region 1 with fail
    generalize hW : World.alloc w _ = V0 at *
    obtain ⟨gr, hgr⟩ : ∃ g, w.heap.size = g := ⟨_, rfl⟩
    have HG : Hid (w.heap.size <= gr) := by show _ <= _; omega
    rw [hgr] at Q0 ⊢
    clear hgr hW
    have t0 := cell_of_row _ _ 0 _ _ _ Q0.out
    have t1 := cell_of_row _ _ 1 _ _ _ Q0.out
    have t2 := cell_of_row _ _ 2 _ _ _ Q0.out
    have t3 := cell_of_row _ _ 3 _ _ _ Q0.out
    have t4 := cell_of_row _ _ 4 _ _ _ Q0.out
    have t5 := cell_of_row _ _ 5 _ _ _ Q0.out
    have f0 := free_row Q0.out 0
    have f1 := free_row Q0.out 1
    have f2 := free_row Q0.out 2
    have f3 := free_row Q0.out 3
    have f4 := free_row Q0.out 4
    have f5 := free_row Q0.out 5
    go_wp2_with fail
    (try simp only [Exit.inBlock, Exit.then])
    refine bodyPost_ret (v := .tuple #[.agg #[.slice none 0 0, .slice none 0 0, .slice none 0 0, .slice none 0 0, .int .i64 0, .int .i64 0], .int .i64 10]) ?_ rfl ?_
    · exact res_two Tryz.results22 _ _ gr _ _ (0, 0) _ _ rfl rfl (row6 Q0.out) Tryz.underlying33 rfl (by kernel_rfl)
    · exact ⟨rfl, (((((A0.out.setk HG.out _).setk HG.out _).setk HG.out _).setk HG.out _).setk HG.out _).setk HG.out _⟩
theorem rlake_12 (n N : Nat) (pb : Option Addr) (lb cb : Nat) (l : Nat) (w : World) (hn : 1 <= n /\ n <= 32) (hN : 6 * (n : Int) * (n : Int) = (N : Nat)) (hB : N <= 6144) (hl : lb ≠ N) :
    Calls Tryz.prog 22 #[.int .i64 (n : Nat), .slice pb lb cb, .float .f64 l] w fun e w' => e = .returned (.tuple #[.agg #[.slice none 0 0, .slice none 0 0, .slice none 0 0, .slice none 0 0, .int .i64 0, .int .i64 0], .int .i64 12]) /\ Below w.heap.size w w' := by
  have d1 : decide ((n : Int) < 1) = false := decide_eq_false (by omega)
  have d2 : decide (32 < (n : Int)) = false := decide_eq_false (by omega)
  have d3 : decide (n < 1) = false := decide_eq_false (by omega)
  have d4 : decide (32 < n) = false := decide_eq_false (by omega)
  have c1 : (n : Int) <= 32 := by omega
  have m1 : -9223372036854775808 <= 6 * (n : Int) * (n : Int) := by rw [hN]; omega
  have m2 : 6 * (n : Int) * (n : Int) <= 9223372036854775807 := by rw [hN]; omega
  have e1 : ((lb : Int) != (N : Int)) = true := by simp; omega
  clear hn hl
  have A0 : Hid (Ab w (w.alloc (.cells #[.slice none 0 0, .slice none 0 0, .slice none 0 0, .slice none 0 0, .int .i64 0, .int .i64 0] 33))) := bl1 _ _
  have Q0 : Hid ((w.alloc (.cells #[.slice none 0 0, .slice none 0 0, .slice none 0 0, .slice none 0 0, .int .i64 0, .int .i64 0] 33)).heap[w.heap.size]? = some (.cells #[.slice none 0 0, .slice none 0 0, .slice none 0 0, .slice none 0 0, .int .i64 0, .int .i64 0] 33)) := heap_alloc_new _ _
  go_enter Tryz.func22, Tryz.ntmps22
  go_upto_region 1 with fail
  generalize hW : World.alloc w _ = V0 at *
  obtain ⟨gr, hgr⟩ : ∃ g, w.heap.size = g := ⟨_, rfl⟩
  have HG : Hid (w.heap.size <= gr) := by show _ <= _; omega
  rw [hgr] at Q0 ⊢
  clear hgr hW
  have t0 := cell_of_row _ _ 0 _ _ _ Q0.out
  have t1 := cell_of_row _ _ 1 _ _ _ Q0.out
  have t2 := cell_of_row _ _ 2 _ _ _ Q0.out
  have t3 := cell_of_row _ _ 3 _ _ _ Q0.out
  have t4 := cell_of_row _ _ 4 _ _ _ Q0.out
  have t5 := cell_of_row _ _ 5 _ _ _ Q0.out
  have f0 := free_row Q0.out 0
  have f1 := free_row Q0.out 1
  have f2 := free_row Q0.out 2
  have f3 := free_row Q0.out 3
  have f4 := free_row Q0.out 4
  have f5 := free_row Q0.out 5
  go_wp2_with fail
  (try simp only [Exit.inBlock, Exit.then])
  refine bodyPost_ret (v := .tuple #[.agg #[.slice none 0 0, .slice none 0 0, .slice none 0 0, .slice none 0 0, .int .i64 0, .int .i64 0], .int .i64 12]) ?_ rfl ?_
  · exact res_two Tryz.results22 _ _ gr _ _ (0, 0) _ _ rfl rfl (row6 Q0.out) Tryz.underlying33 rfl (by kernel_rfl)
  · exact ⟨rfl, (((((A0.out.setk HG.out _).setk HG.out _).setk HG.out _).setk HG.out _).setk HG.out _).setk HG.out _⟩
theorem rlake_13 (n N : Nat) (pb : Option Addr) (cb l : Nat) (q : Int) (w : World) (hn : 1 <= n /\ n <= 32) (hN : 6 * (n : Int) * (n : Int) = (N : Nat)) (hB : N <= 6144) (hq : decide (0 <= q) = true)
    (FL : Hid (∀ v, Ab w v -> Calls Tryz.prog 38 #[.slice pb N cb, .float .f64 4697254411347427328] v fun e w' => e = .returned (.int .i64 q) /\ Below v.heap.size v w')) :
    Calls Tryz.prog 22 #[.int .i64 (n : Nat), .slice pb N cb, .float .f64 l] w fun e w' => e = .returned (.tuple #[.agg #[.slice none 0 0, .slice none 0 0, .slice none 0 0, .slice none 0 0, .int .i64 0, .int .i64 0], .int .i64 13]) /\ Below w.heap.size w w' := by
  have d1 : decide ((n : Int) < 1) = false := decide_eq_false (by omega)
  have d2 : decide (32 < (n : Int)) = false := decide_eq_false (by omega)
  have d3 : decide (n < 1) = false := decide_eq_false (by omega)
  have d4 : decide (32 < n) = false := decide_eq_false (by omega)
  have c1 : (n : Int) <= 32 := by omega
  have m1 : -9223372036854775808 <= 6 * (n : Int) * (n : Int) := by rw [hN]; omega
  have m2 : 6 * (n : Int) * (n : Int) <= 9223372036854775807 := by rw [hN]; omega
  have e1 : ((N : Int) != (N : Int)) = false := by simp
  clear hn
  have A0 : Hid (Ab w (w.alloc (.cells #[.slice none 0 0, .slice none 0 0, .slice none 0 0, .slice none 0 0, .int .i64 0, .int .i64 0] 33))) := bl1 _ _
  have Q0 : Hid ((w.alloc (.cells #[.slice none 0 0, .slice none 0 0, .slice none 0 0, .slice none 0 0, .int .i64 0, .int .i64 0] 33)).heap[w.heap.size]? = some (.cells #[.slice none 0 0, .slice none 0 0, .slice none 0 0, .slice none 0 0, .int .i64 0, .int .i64 0] 33)) := heap_alloc_new _ _
  go_enter Tryz.func22, Tryz.ntmps22
  go_upto_region 1 with fail
  generalize hW : World.alloc w _ = V0 at *
  obtain ⟨gr, hgr⟩ : ∃ g, w.heap.size = g := ⟨_, rfl⟩
  have HG : Hid (w.heap.size <= gr) := by show _ <= _; omega
  rw [hgr] at Q0 ⊢
  clear hgr hW
  go_wp2_with fail
  refine (FL.out _ A0.out).mono ?_
  rintro e9 v1 ⟨rfl, b1⟩
  have A1 : Hid (Ab w v1) := A0.out.trans b1
  have Q1 := hid (Ab.heap b1 Q0.out)
  clear b1 A0 Q0
  have t0 := cell_of_row _ _ 0 _ _ _ Q1.out
  have t1 := cell_of_row _ _ 1 _ _ _ Q1.out
  have t2 := cell_of_row _ _ 2 _ _ _ Q1.out
  have t3 := cell_of_row _ _ 3 _ _ _ Q1.out
  have t4 := cell_of_row _ _ 4 _ _ _ Q1.out
  have t5 := cell_of_row _ _ 5 _ _ _ Q1.out
  have f0 := free_row Q1.out 0
  have f1 := free_row Q1.out 1
  have f2 := free_row Q1.out 2
  have f3 := free_row Q1.out 3
  have f4 := free_row Q1.out 4
  have f5 := free_row Q1.out 5
  go_wp2_with fail
  (try simp only [Exit.inBlock, Exit.then])
  refine bodyPost_ret (v := .tuple #[.agg #[.slice none 0 0, .slice none 0 0, .slice none 0 0, .slice none 0 0, .int .i64 0, .int .i64 0], .int .i64 13]) ?_ rfl ?_
  · exact res_two Tryz.results22 _ _ gr _ _ (0, 0) _ _ rfl rfl (row6 Q1.out) Tryz.underlying33 rfl (by kernel_rfl)
  · exact ⟨rfl, (((((A1.out.setk HG.out _).setk HG.out _).setk HG.out _).setk HG.out _).setk HG.out _).setk HG.out _⟩
theorem rlake_1 (n N : Nat) (pb : Option Addr) (cb l : Nat) (q : Int) (w : World) (hn : 1 <= n /\ n <= 32) (hN : 6 * (n : Int) * (n : Int) = (N : Nat)) (hB : N <= 6144) (hq : decide (0 <= q) = false) (hl : ((fgt l 13920626448202203136 || feq l 13920626448202203136) && (flt l 4697254411347427328 || feq l 4697254411347427328)) = false)
    (FL : Hid (∀ v, Ab w v -> Calls Tryz.prog 38 #[.slice pb N cb, .float .f64 4697254411347427328] v fun e w' => e = .returned (.int .i64 q) /\ Below v.heap.size v w')) :
    Calls Tryz.prog 22 #[.int .i64 (n : Nat), .slice pb N cb, .float .f64 l] w fun e w' => e = .returned (.tuple #[.agg #[.slice none 0 0, .slice none 0 0, .slice none 0 0, .slice none 0 0, .int .i64 0, .int .i64 0], .int .i64 1]) /\ Below w.heap.size w w' := by
  have d1 : decide ((n : Int) < 1) = false := decide_eq_false (by omega)
  have d2 : decide (32 < (n : Int)) = false := decide_eq_false (by omega)
  have d3 : decide (n < 1) = false := decide_eq_false (by omega)
  have d4 : decide (32 < n) = false := decide_eq_false (by omega)
  have c1 : (n : Int) <= 32 := by omega
  have m1 : -9223372036854775808 <= 6 * (n : Int) * (n : Int) := by rw [hN]; omega
  have m2 : 6 * (n : Int) * (n : Int) <= 9223372036854775807 := by rw [hN]; omega
  have e1 : ((N : Int) != (N : Int)) = false := by simp
  clear hn
  cases h1 : (fgt l 13920626448202203136 || feq l 13920626448202203136) with
  | false =>
    clear hl
    have A0 : Hid (Ab w (w.alloc (.cells #[.slice none 0 0, .slice none 0 0, .slice none 0 0, .slice none 0 0, .int .i64 0, .int .i64 0] 33))) := bl1 _ _
    have Q0 : Hid ((w.alloc (.cells #[.slice none 0 0, .slice none 0 0, .slice none 0 0, .slice none 0 0, .int .i64 0, .int .i64 0] 33)).heap[w.heap.size]? = some (.cells #[.slice none 0 0, .slice none 0 0, .slice none 0 0, .slice none 0 0, .int .i64 0, .int .i64 0] 33)) := heap_alloc_new _ _
    go_enter Tryz.func22, Tryz.ntmps22
    go_upto_region 1 with fail
    generalize hW : World.alloc w _ = V0 at *
    obtain ⟨gr, hgr⟩ : ∃ g, w.heap.size = g := ⟨_, rfl⟩
    have HG : Hid (w.heap.size <= gr) := by show _ <= _; omega
    rw [hgr] at Q0 ⊢
    clear hgr hW
    go_wp2_with fail
    refine (FL.out _ A0.out).mono ?_
    rintro e9 v1 ⟨rfl, b1⟩
    have A1 : Hid (Ab w v1) := A0.out.trans b1
    have Q1 := hid (Ab.heap b1 Q0.out)
    clear b1 A0 Q0
    have t0 := cell_of_row _ _ 0 _ _ _ Q1.out
    have t1 := cell_of_row _ _ 1 _ _ _ Q1.out
    have t2 := cell_of_row _ _ 2 _ _ _ Q1.out
    have t3 := cell_of_row _ _ 3 _ _ _ Q1.out
    have t4 := cell_of_row _ _ 4 _ _ _ Q1.out
    have t5 := cell_of_row _ _ 5 _ _ _ Q1.out
    have f0 := free_row Q1.out 0
    have f1 := free_row Q1.out 1
    have f2 := free_row Q1.out 2
    have f3 := free_row Q1.out 3
    have f4 := free_row Q1.out 4
    have f5 := free_row Q1.out 5
    go_wp2_with fail
    (try simp only [Exit.inBlock, Exit.then])
    refine bodyPost_ret (v := .tuple #[.agg #[.slice none 0 0, .slice none 0 0, .slice none 0 0, .slice none 0 0, .int .i64 0, .int .i64 0], .int .i64 1]) ?_ rfl ?_
    · exact res_two Tryz.results22 _ _ gr _ _ (0, 0) _ _ rfl rfl (row6 Q1.out) Tryz.underlying33 rfl (by kernel_rfl)
    · exact ⟨rfl, (((((A1.out.setk HG.out _).setk HG.out _).setk HG.out _).setk HG.out _).setk HG.out _).setk HG.out _⟩
  | true =>
    rw [h1, Bool.true_and] at hl
    have A0 : Hid (Ab w (w.alloc (.cells #[.slice none 0 0, .slice none 0 0, .slice none 0 0, .slice none 0 0, .int .i64 0, .int .i64 0] 33))) := bl1 _ _
    have Q0 : Hid ((w.alloc (.cells #[.slice none 0 0, .slice none 0 0, .slice none 0 0, .slice none 0 0, .int .i64 0, .int .i64 0] 33)).heap[w.heap.size]? = some (.cells #[.slice none 0 0, .slice none 0 0, .slice none 0 0, .slice none 0 0, .int .i64 0, .int .i64 0] 33)) := heap_alloc_new _ _
    go_enter Tryz.func22, Tryz.ntmps22
    go_upto_region 1 with fail
    generalize hW : World.alloc w _ = V0 at *
    obtain ⟨gr, hgr⟩ : ∃ g, w.heap.size = g := ⟨_, rfl⟩
    have HG : Hid (w.heap.size <= gr) := by show _ <= _; omega
    rw [hgr] at Q0 ⊢
    clear hgr hW
    go_wp2_with fail
    refine (FL.out _ A0.out).mono ?_
    rintro e9 v1 ⟨rfl, b1⟩
    have A1 : Hid (Ab w v1) := A0.out.trans b1
    have Q1 := hid (Ab.heap b1 Q0.out)
    clear b1 A0 Q0
    have t0 := cell_of_row _ _ 0 _ _ _ Q1.out
    have t1 := cell_of_row _ _ 1 _ _ _ Q1.out
    have t2 := cell_of_row _ _ 2 _ _ _ Q1.out
    have t3 := cell_of_row _ _ 3 _ _ _ Q1.out
    have t4 := cell_of_row _ _ 4 _ _ _ Q1.out
    have t5 := cell_of_row _ _ 5 _ _ _ Q1.out
    have f0 := free_row Q1.out 0
    have f1 := free_row Q1.out 1
    have f2 := free_row Q1.out 2
    have f3 := free_row Q1.out 3
    have f4 := free_row Q1.out 4
    have f5 := free_row Q1.out 5
    go_wp2_with fail
    (try simp only [Exit.inBlock, Exit.then])
    refine bodyPost_ret (v := .tuple #[.agg #[.slice none 0 0, .slice none 0 0, .slice none 0 0, .slice none 0 0, .int .i64 0, .int .i64 0], .int .i64 1]) ?_ rfl ?_
    · exact res_two Tryz.results22 _ _ gr _ _ (0, 0) _ _ rfl rfl (row6 Q1.out) Tryz.underlying33 rfl (by kernel_rfl)
    · exact ⟨rfl, (((((A1.out.setk HG.out _).setk HG.out _).setk HG.out _).setk HG.out _).setk HG.out _).setk HG.out _⟩
theorem rlake_go (n N M : Nat) (qb ob cb l : Nat) (B : Nat -> Nat) (G : Nat -> Int) (ar : Nat -> Int) (q qw : Int) (w : World) (hn : 1 <= n /\ n <= 32) (hN : 6 * (n : Int) * (n : Int) = (N : Nat)) (hB : N <= 6144) (hM : 2 * (N : Int) = (M : Nat)) (hq : decide (0 <= q) = false) (hl1 : (fgt l 13920626448202203136 || feq l 13920626448202203136) = true) (hl2 : (flt l 4697254411347427328 || feq l 4697254411347427328) = true) (hqw : decide (0 <= qw) = false)
    (FL : Hid (∀ v, Ab w v -> Calls Tryz.prog 38 #[.slice (some ⟨qb, ob, none⟩) N cb, .float .f64 4697254411347427328] v fun e w' => e = .returned (.int .i64 q) /\ Below v.heap.size v w'))
    (NW : Hid (∀ v, Ab w v -> Calls Tryz.prog 53 #[.int .i64 (n : Nat)] v fun e w' => ∃ rb, e = .returned (.tuple #[.pointer (some ⟨rb, 0, none⟩), .int .i64 0]) /\ Below v.heap.size v w' /\ RefOf n rb w'))
    (AR : Hid (∀ v rb (c : Nat), RefOf n rb v -> c < N -> Calls Tryz.prog 63 #[.pointer (some ⟨rb, 0, none⟩), .int .i64 (c : Nat)] v fun e w' => e = .returned (.int .i64 (ar c)) /\ Below v.heap.size v w'))
    (FI : Hid (∀ v (c : Nat), c < N -> Calls Tryz.prog 62 #[.float .f64 (B c), .int .i64 (ar c), .float .f64 l] v fun e w' => e = .returned (.int .i64 (G c)) /\ Below v.heap.size v w'))
    (QU : Hid (∀ v b, Sh.IsI v (some ⟨b, 0, none⟩) N G -> Calls Tryz.prog 39 #[.slice (some ⟨b, 0, none⟩) N N, .int .i64 0] v fun e w' => e = .returned (.int .i64 qw) /\ Below v.heap.size v w'))
    (GW : Hid (∀ c, c < N -> Sh.W64 (G c))) (IB : Hid (IsFl w (some ⟨qb, ob, none⟩) N B)) :
    Calls Tryz.prog 22 #[.int .i64 (n : Nat), .slice (some ⟨qb, ob, none⟩) N cb, .float .f64 l] w fun e w' => ∃ v, e = .returned (.tuple #[v, .int .i64 0]) /\ Below w.heap.size w w' /\ OwnS w.heap.size v N N N M B G (fun _ => 0) (fun _ => 0) 0 0 w' := by
  have d1 : decide ((n : Int) < 1) = false := decide_eq_false (by omega)
  have d2 : decide (32 < (n : Int)) = false := decide_eq_false (by omega)
  have d3 : decide (n < 1) = false := decide_eq_false (by omega)
  have d4 : decide (32 < n) = false := decide_eq_false (by omega)
  have c1 : (n : Int) <= 32 := by omega
  have m1 : -9223372036854775808 <= 6 * (n : Int) * (n : Int) := by rw [hN]; omega
  have m2 : 6 * (n : Int) * (n : Int) <= 9223372036854775807 := by rw [hN]; omega
  have e1 : ((N : Int) != (N : Int)) = false := by simp
  have M2 : ∀ v : World, (Instr.makeSlice 31 (.int .i64 (N : Nat)) (.int .i64 (N : Nat))).run Tryz.prog v = .ok (.slice (some ⟨v.heap.size, 0, none⟩) N N) (v.alloc (Obj.cells (madeCells #[.int .i64 0] N) 2)) := fun v => run_make_row' (P := Tryz.prog) 31 2 (.int .i64 0) 8 Tryz.underlying31 info64 rfl .i64 .i64 N (by omega) (by omega) v
  have M4 : ∀ v : World, (Instr.makeSlice 30 (.int .i64 (M : Nat)) (.int .i64 (M : Nat))).run Tryz.prog v = .ok (.slice (some ⟨v.heap.size, 0, none⟩) M M) (v.alloc (Obj.cells (madeCells #[.float .f64 0] M) 22)) := fun v => run_make_row' (P := Tryz.prog) 30 22 (.float .f64 0) 8 Tryz.underlying30 info_f20 rfl .i64 .i64 M (by omega) (by omega) v
  have AL : ∀ v : World, (Instr.alloc 33 true (.tuple #[])).run Tryz.prog v = .ok (.pointer (some ⟨v.heap.size, 0, none⟩)) (v.alloc (.cells #[.slice none 0 0, .slice none 0 0, .slice none 0 0, .slice none 0 0, .int .i64 0, .int .i64 0] 33)) := fun v => by
    simp [go_sem]
  have nB : (N : Int) <= 6144 := by omega
  have HN := hid (And.intro hB (show M <= 12288 by omega))
  clear hn hB
  have A0 : Hid (Ab w (w.alloc (.cells #[.slice none 0 0, .slice none 0 0, .slice none 0 0, .slice none 0 0, .int .i64 0, .int .i64 0] 33))) := bl1 _ _
  have Q0 : Hid ((w.alloc (.cells #[.slice none 0 0, .slice none 0 0, .slice none 0 0, .slice none 0 0, .int .i64 0, .int .i64 0] 33)).heap[w.heap.size]? = some (.cells #[.slice none 0 0, .slice none 0 0, .slice none 0 0, .slice none 0 0, .int .i64 0, .int .i64 0] 33)) := heap_alloc_new _ _
  go_enter Tryz.func22, Tryz.ntmps22
  go_upto_region 1 with fail
  generalize hW : World.alloc w _ = V0 at *
  obtain ⟨gr, hgr⟩ : ∃ g, w.heap.size = g := ⟨_, rfl⟩
  have HG : Hid (w.heap.size <= gr) := by show _ <= _; omega
  rw [hgr] at Q0 ⊢
  clear hgr hW
  go_wp2_with fail
  refine (FL.out _ A0.out).mono ?_
  rintro e9 v1 ⟨rfl, b1⟩
  have A1 : Hid (Ab w v1) := A0.out.trans b1
  have Q1 := hid (Ab.heap b1 Q0.out)
  clear b1 A0 Q0
  go_wp2_with fail
  refine (NW.out _ A1.out).mono ?_
  rintro e9 v2 ⟨rb, rfl, b2, g2⟩
  have A2 : Hid (Ab w v2) := A1.out.trans b2
  have Q2 := hid (Ab.heap b2 Q1.out)
  have G2 := hid g2
  clear b2 g2 Q1 A1 FL NW
  go_upto_region 12 with fail
  go_cut [12] from 48 to 57 (fun s12 wx => ∃ g5 b1 b2 b3 b4, s12 = .pointer (some ⟨g5, 0, none⟩) /\ Ab v2 wx /\ wx.heap[g5]? = some (.cells #[.slice (some ⟨b1, 0, none⟩) N N, .slice (some ⟨b2, 0, none⟩) N N, .slice (some ⟨b3, 0, none⟩) N N, .slice (some ⟨b4, 0, none⟩) M M, .int .i64 0, .int .i64 0] 33) /\ wx.heap[b1]? = some (Obj.cells ((List.range N).map (fun i => Value.float .f64 (B i))).toArray 22) /\ wx.heap[b2]? = some (Obj.cells (madeCells #[.int .i64 0] N) 2) /\ wx.heap[b3]? = some (Obj.cells (madeCells #[.int .i64 0] N) 2) /\ wx.heap[b4]? = some (Obj.cells (madeCells #[.float .f64 0] M) 22) /\ (v2.heap.size <= b1 /\ v2.heap.size <= b2 /\ v2.heap.size <= b3 /\ v2.heap.size <= b4 /\ v2.heap.size <= g5) /\ (b1 ≠ b2 /\ b1 ≠ b3 /\ b1 ≠ b4 /\ b2 ≠ b3 /\ b2 ≠ b4 /\ b3 ≠ b4) /\ (b1 ≠ g5 /\ b2 ≠ g5 /\ b3 ≠ g5 /\ b4 ≠ g5))
  case first =>
    obtain ⟨UU, E, hF1, hF2⟩ := cls v2.drew
    have HU := hid hF2
    have HU1 := hid hF1
    have C1 : Hid (∀ v, Ab v2.drew v -> Calls Tryz.prog 61 #[.slice (some ⟨qb, ob, none⟩) N cb] v (fun e w2 => ∃ b, e = .returned (.slice (some ⟨b, 0, none⟩) N N) /\ Ab v w2 /\ v.heap.size <= b /\ w2.heap[b]? = some (Obj.cells ((List.range N).map (fun i => Value.float .f64 (B i))).toArray 22))) := fun v a => (Fc.rcopied16 (some ⟨qb, ob, none⟩) N cb B v (by have := HN.out; omega) (IB.out.below (A2.out.trans ((Ab.refl v2).drew.trans a)))).mono fun e w2 h => by
      obtain ⟨b, rfl, k1, k2, k3⟩ := h
      exact ⟨b, rfl, k1, k3, row_obj k2⟩
    clear hF1 hF2
    refine Cf.region_free 11 (fun k => if k = 1 then some ((Obj.cells ((List.range N).map (fun i => Value.float .f64 (B i))).toArray 22), fun b => .slice (some ⟨b, 0, none⟩) N N) else if k = 3 then some ((Obj.cells (madeCells #[.int .i64 0] N) 2), fun b => .slice (some ⟨b, 0, none⟩) N N) else if k = 5 then some ((Obj.cells (madeCells #[.int .i64 0] N) 2), fun b => .slice (some ⟨b, 0, none⟩) N N) else if k = 8 then some ((Obj.cells (madeCells #[.float .f64 0] M) 22), fun b => .slice (some ⟨b, 0, none⟩) M M) else if k = 10 then some ((.cells #[.slice none 0 0, .slice none 0 0, .slice none 0 0, .slice none 0 0, .int .i64 0, .int .i64 0] 33), fun b => .pointer (some ⟨b, 0, none⟩)) else none) (by kernel_rfl) (by kernel_rfl) (by kernel_rfl) ?_
    simp only [List.take_succ_cons, List.take_zero]
    refine Cf.wpFree_one HU (by rfl) (by rfl) ?_
    go_big_quiet_step (with_reducible rfl)
    refine wpQuiet_nil ?_
    refine Cf.wpFree_lay (ob := (Obj.cells ((List.range N).map (fun i => Value.float .f64 (B i))).toArray 22)) (mk := fun b => .slice (some ⟨b, 0, none⟩) N N) (by rfl) (by kernel_rfl) ?_ ?_
    · refine Cf.lay_call (f := 61) (args := #[.slice (some ⟨qb, ob, none⟩) N cb]) ?_ C1.out
      intro v
      refine enter_run (x := .tmp 48) (ats := #[30]) (by rfl) (by rfl) Tryz.func61 (by kernel_rfl) (by kernel_rfl) v
    intro b1 fb1
    simp only [Act.put, List.setIfInBounds_toArray, List.set_cons_succ, List.set_cons_zero]
    refine Cf.wpFree_one HU (by rfl) (by rfl) ?_
    go_big_quiet_step (with_reducible rfl)
    refine wpQuiet_nil ?_
    refine Cf.wpFree_lay (ob := (Obj.cells (madeCells #[.int .i64 0] N) 2)) (mk := fun b => .slice (some ⟨b, 0, none⟩) N N) (by rfl) (by kernel_rfl) ?_ ?_
    · refine Cf.lay_run (lay_make (vx := .int .i64 (N : Nat)) (vy := .int .i64 (N : Nat)) (ob := (Obj.cells (madeCells #[.int .i64 0] N) 2)) (mk := fun b => .slice (some ⟨b, 0, none⟩) N N) rfl ?_ ?_ ?_)
      · rfl
      · rfl
      · exact M2
    intro b2 fb2
    simp only [Act.put, List.setIfInBounds_toArray, List.set_cons_succ, List.set_cons_zero]
    refine Cf.wpFree_one HU (by rfl) (by rfl) ?_
    go_big_quiet_step (with_reducible rfl)
    refine wpQuiet_nil ?_
    refine Cf.wpFree_lay (ob := (Obj.cells (madeCells #[.int .i64 0] N) 2)) (mk := fun b => .slice (some ⟨b, 0, none⟩) N N) (by rfl) (by kernel_rfl) ?_ ?_
    · refine Cf.lay_run (lay_make (vx := .int .i64 (N : Nat)) (vy := .int .i64 (N : Nat)) (ob := (Obj.cells (madeCells #[.int .i64 0] N) 2)) (mk := fun b => .slice (some ⟨b, 0, none⟩) N N) rfl ?_ ?_ ?_)
      · rfl
      · rfl
      · exact M2
    intro b3 fb3
    simp only [Act.put, List.setIfInBounds_toArray, List.set_cons_succ, List.set_cons_zero]
    refine Cf.wpFree_one HU (by rfl) (by rfl) ?_
    go_big_quiet_step (with_reducible rfl)
    refine wpQuiet_nil ?_
    refine Cf.wpFree_one HU (by rfl) (by rfl) ?_
    go_big_quiet_step (with_reducible rfl)
    refine wpQuiet_nil ?_
    refine Cf.wpFree_lay (ob := (Obj.cells (madeCells #[.float .f64 0] M) 22)) (mk := fun b => .slice (some ⟨b, 0, none⟩) M M) (by rfl) (by kernel_rfl) ?_ ?_
    · refine Cf.lay_run (lay_make (vx := .int .i64 (M : Nat)) (vy := .int .i64 (M : Nat)) (ob := (Obj.cells (madeCells #[.float .f64 0] M) 22)) (mk := fun b => .slice (some ⟨b, 0, none⟩) M M) rfl ?_ ?_ ?_)
      · rfl
      · rfl
      · exact M4
    intro b4 fb4
    simp only [Act.put, List.setIfInBounds_toArray, List.set_cons_succ, List.set_cons_zero]
    refine Cf.wpFree_one HU (by rfl) (by rfl) ?_
    go_big_quiet_step (with_reducible rfl)
    refine wpQuiet_nil ?_
    refine Cf.wpFree_lay (ob := (.cells #[.slice none 0 0, .slice none 0 0, .slice none 0 0, .slice none 0 0, .int .i64 0, .int .i64 0] 33)) (mk := fun b => .pointer (some ⟨b, 0, none⟩)) (by rfl) (by kernel_rfl) ?_ ?_
    · refine Cf.lay_run (lay_alloc (ob := (.cells #[.slice none 0 0, .slice none 0 0, .slice none 0 0, .slice none 0 0, .int .i64 0, .int .i64 0] 33)) (mk := fun b => .pointer (some ⟨b, 0, none⟩)) rfl ?_)
      exact AL
    intro g5 fg5
    simp only [Act.put, List.setIfInBounds_toArray, List.set_cons_succ, List.set_cons_zero]
    refine Cf.wpFree_nil ?_
    intro wz hz
    have h1 := hz.at (i := 1) (b := b1) (ob := (Obj.cells ((List.range N).map (fun i => Value.float .f64 (B i))).toArray 22)) (by rfl) (by rfl)
    have h2 := hz.at (i := 3) (b := b2) (ob := (Obj.cells (madeCells #[.int .i64 0] N) 2)) (by rfl) (by rfl)
    have h3 := hz.at (i := 5) (b := b3) (ob := (Obj.cells (madeCells #[.int .i64 0] N) 2)) (by rfl) (by rfl)
    have h4 := hz.at (i := 8) (b := b4) (ob := (Obj.cells (madeCells #[.float .f64 0] M) 22)) (by rfl) (by rfl)
    have h5 := hz.at (i := 10) (b := g5) (ob := (.cells #[.slice none 0 0, .slice none 0 0, .slice none 0 0, .slice none 0 0, .int .i64 0, .int .i64 0] 33)) (by rfl) (by rfl)
    have n12 : b1 ≠ b2 := fb2.2 1 b1 (by rfl)
    have n13 : b1 ≠ b3 := fb3.2 1 b1 (by rfl)
    have n14 : b1 ≠ b4 := fb4.2 1 b1 (by rfl)
    have n15 : b1 ≠ g5 := fg5.2 1 b1 (by rfl)
    have n23 : b2 ≠ b3 := fb3.2 3 b2 (by rfl)
    have n24 : b2 ≠ b4 := fb4.2 3 b2 (by rfl)
    have n25 : b2 ≠ g5 := fg5.2 3 b2 (by rfl)
    have n34 : b3 ≠ b4 := fb4.2 5 b3 (by rfl)
    have n35 : b3 ≠ g5 := fg5.2 5 b3 (by rfl)
    have n45 : b4 ≠ g5 := fg5.2 8 b4 (by rfl)
    have AZ : Ab v2 wz := (Ab.refl v2).drew.trans hz.1
    have RZ := hid h5.1
    have HH := hid (And.intro h1 (And.intro h2 (And.intro h3 (And.intro h4 h5))))
    have NN := hid (And.intro (And.intro n12 (And.intro n13 (And.intro n14 (And.intro n23 (And.intro n24 n34))))) (And.intro n15 (And.intro n25 (And.intro n35 n45))))
    have HAZ := hid AZ
    clear hz fb1 fb2 fb3 fb4 fg5 h1 h2 h3 h4 h5 n12 n13 n14 n15 n23 n24 n25 n34 n35 n45 AZ HU HU1 C1
    clear E UU
    have t0 := cell_of_row _ _ 0 _ _ _ RZ.out
    have t1 := cell_of_row _ _ 1 _ _ _ RZ.out
    have t2 := cell_of_row _ _ 2 _ _ _ RZ.out
    have t3 := cell_of_row _ _ 3 _ _ _ RZ.out
    have t4 := cell_of_row _ _ 4 _ _ _ RZ.out
    have t5 := cell_of_row _ _ 5 _ _ _ RZ.out
    have f0 := free_row RZ.out 0
    have f1 := free_row RZ.out 1
    have f2 := free_row RZ.out 2
    have f3 := free_row RZ.out 3
    have f4 := free_row RZ.out 4
    have f5 := free_row RZ.out 5
    simp only [List.drop_succ_cons, List.drop_zero]
    go_wp2_with fail
    go_meet
    obtain ⟨⟨k1, l1⟩, ⟨k2, l2⟩, ⟨k3, l3⟩, ⟨k4, l4⟩, ⟨k5, l5⟩⟩ := HH.out
    have st_ : ∀ (b : Nat) (o : Obj), b ≠ g5 -> wz.heap[b]? = some o -> ∀ x0 x1 x2 x3 x4 x5, ((((((wz.setCell ⟨g5, 0, none⟩ x0).setCell ⟨g5, 1, none⟩ x1).setCell ⟨g5, 2, none⟩ x2).setCell ⟨g5, 3, none⟩ x3).setCell ⟨g5, 4, none⟩ x4).setCell ⟨g5, 5, none⟩ x5).heap[b]? = some o := fun b o hb h x0 x1 x2 x3 x4 x5 => by
      rw [heap_set_ne hb, heap_set_ne hb, heap_set_ne hb, heap_set_ne hb, heap_set_ne hb, heap_set_ne hb]
      exact h
    refine ⟨g5, b1, b2, b3, b4, rfl, ?_, row6 k5, st_ b1 _ NN.out.2.1 k1 _ _ _ _ _ _, st_ b2 _ NN.out.2.2.1 k2 _ _ _ _ _ _, st_ b3 _ NN.out.2.2.2.1 k3 _ _ _ _ _ _, st_ b4 _ NN.out.2.2.2.2 k4 _ _ _ _ _ _, ⟨l1, l2, l3, l4, l5⟩, NN.out.1, NN.out.2⟩
    exact (((((HAZ.out.setk l5 _).setk l5 _).setk l5 _).setk l5 _).setk l5 _).setk l5 _
  case rest =>
    obtain ⟨g5, b1, b2, b3, b4, rfl, a3, r5, m1', m2', m3, m4, hl, hne, hng⟩ := hcut
    rename World => v3
    have A3 : Hid (Ab v2 v3) := a3
    have R5 := hid r5
    have N1 : Hid (v3.rowIs b1 22 N (fun i => .float .f64 (B i))) := obj_row m1'
    have N2 : Hid (v3.rowIs b2 2 N (fun _ => .int .i64 0)) := made_row m2'
    have N3 : Hid (v3.rowIs b3 2 N (fun _ => .int .i64 0)) := made_row m3
    have N4 : Hid (v3.rowIs b4 22 M (fun _ => .float .f64 0)) := made_row m4
    have LL := hid hl
    have NN := hid hne
    have NG := hid hng
    clear a3 r5 m1' m2' m3 m4 hl hne hng M2 M4 AL
    go_wp2
    go_loopw [13] (fun iv wr => ∃ (k : Nat), k <= N /\ iv = .int .i64 (k : Nat) /\ Ab v2 wr /\ wr.heap[g5]? = some (.cells #[.slice (some ⟨b1, 0, none⟩) N N, .slice (some ⟨b2, 0, none⟩) N N, .slice (some ⟨b3, 0, none⟩) N N, .slice (some ⟨b4, 0, none⟩) M M, .int .i64 0, .int .i64 0] 33) /\ wr.rowIs b1 22 N (fun i => .float .f64 (B i)) /\ wr.rowIs b2 2 N (fun i => .int .i64 (if i < k then G i else 0)) /\ wr.rowIs b3 2 N (fun _ => .int .i64 0) /\ wr.rowIs b4 22 M (fun _ => .float .f64 0)) (fun iv _ => N - (intOf iv).toNat)
    case atStart => exact ⟨0, by omega, rfl, A3.out, R5.out, N1.out, N2.out.congr (fun i _ => by simp), N3.out, N4.out⟩
    case round =>
      obtain ⟨k, hk, rfl, ar', h5, r1, r2, r3, r4⟩ := hrel
      have AW := hid ar'
      have H5 := hid h5
      have P1 := hid r1
      have P2 := hid r2
      have P3 := hid r3
      have P4 := hid r4
      clear ar' h5 r1 r2 r3 r4 N1 N2 N3 N4 R5 A3
      by_cases hkn : k < N
      · have HK := hid hkn
        have kI : (k : Int) < N := by omega
        have kB : (k : Int) <= 6144 := by have := HN.out.1; omega
        have CA : Hid (∀ v, Ab wr v -> Calls Tryz.prog 63 #[.pointer (some ⟨rb, 0, none⟩), .int .i64 (k : Nat)] v fun e w' => e = .returned (.int .i64 (ar k)) /\ Below v.heap.size v w') := fun v a => AR.out v rb k (G2.out.to (AW.out.trans a)) hkn
        have CF := hid (fun v => FI.out v k hkn)
        obtain ⟨x, hx⟩ : ∃ x, B k = x := ⟨_, rfl⟩
        obtain ⟨y, hy⟩ : ∃ x, G k = x := ⟨_, rfl⟩
        have YE := hid hy
        have YB : Hid (∀ v, Ab w v -> v.cell? ⟨qb, ob + k, none⟩ = some (.float .f64 x)) := fun v a => by rw [<- hx]; exact ((IB.out.below a).at0 hkn).2.2
        rw [hx, hy] at CF
        clear hx hy hkn hk
        go_upto_region 16 with fail
        obtain ⟨UU, E, hF1, hF2⟩ := cls wr
        have HU := hid hF2
        have HU1 := hid hF1
        have y0 : ∀ u, (E u).cell? ⟨g5, 1, none⟩ = some (.slice (some ⟨b2, 0, none⟩) N N) := fun u => cell_of_row _ _ 1 _ _ _ ((hF1 u).heap H5.out)
        have y2 : ∀ u, (E u).cell? ⟨qb, ob + k, none⟩ = some (.float .f64 x) := fun u => YB.out _ (A2.out.trans (AW.out.trans (hF1 u)))
        have DD0 := HU.out _ (Ab.refl wr).drew
        clear hF1 hF2
        refine region_tail 13 E (by kernel_rfl) (by kernel_rfl) (by kernel_rfl) DD0 ?_
        simp only [List.take_succ_cons, List.take_zero, List.drop_succ_cons, List.drop_zero]
        repeat (go_big_quiet_step (first | (go_at_call 63; exact calls_cls HU HU1 (CA.out _ (HU1.out _))) | (go_at_call 62; exact calls_cls HU HU1 (CF.out _)) | (with_reducible rfl)))
        refine wpQuiet_nil ?_
        intro z hwz
        obtain ⟨u0, hu⟩ := hwz
        have AZ : Hid (Ab wr z) := by rw [hu]; exact HU1.out u0
        clear hu u0
        clear HU HU1 DD0 y0 y2
        clear E UU
        have z1 := (rowIs.ab P2.out AZ.out).cell HK.out
        have z2 := (rowIs.ab P2.out AZ.out).frozen k
        go_wp2_with fail
        refine ⟨⟨k + 1, by have := HK.out; omega, by simp, (AW.out.trans AZ.out).setk LL.out.2.1 _, (heap_set_ne (Ne.symm NG.out.2.1)).trans (Ab.heap AZ.out H5.out), (rowIs.ab P1.out AZ.out).setOther (a := ⟨b2, k, none⟩) NN.out.1 _, ((rowIs.ab P2.out AZ.out).set k _).congr (fun i _ => ?_), (rowIs.ab P3.out AZ.out).setOther (a := ⟨b2, k, none⟩) (Ne.symm NN.out.2.2.2.1) _, (rowIs.ab P4.out AZ.out).setOther (a := ⟨b2, k, none⟩) (Ne.symm NN.out.2.2.2.2.1) _⟩, by have := HK.out; simp [intOf]; omega⟩
        by_cases e : i = k
        · subst e; simp [YE.out]
        · have e2 : (i < k + 1) ↔ i < k := by omega
          simp [e, e2]
      · have e6 : N = k := by omega
        subst e6
        have CQ := hid (QU.out wr b2 (fun i hi => ⟨GW.out i hi, b2, 0, rfl, P2.out.lt, by have h := P2.out.cell hi; rw [if_pos hi] at h; rw [Nat.zero_add]; exact h⟩))
        clear hkn hk
        have o0 := cell_of_row _ _ 0 _ _ _ H5.out
        have o1 := cell_of_row _ _ 1 _ _ _ H5.out
        have o2 := cell_of_row _ _ 2 _ _ _ H5.out
        have o3 := cell_of_row _ _ 3 _ _ _ H5.out
        have o4 := cell_of_row _ _ 4 _ _ _ H5.out
        have o5 := cell_of_row _ _ 5 _ _ _ H5.out
        go_wp2_with fail
        refine CQ.out.mono ?_
        rintro e9 v8 ⟨rfl, b8⟩
        have B8 : Hid (Ab wr v8) := b8
        have H8 := hid (Ab.heap b8 H5.out)
        have Q8 : Hid (v8.heap[gr]? = some (.cells #[.slice none 0 0, .slice none 0 0, .slice none 0 0, .slice none 0 0, .int .i64 0, .int .i64 0] 33)) := Ab.heap (AW.out.trans b8) Q2.out
        have GL : Hid (gr < v2.heap.size) := Rv.lt_of_get Q2.out
        have A8 : Hid (Ab w v8) := A2.out.trans (AW.out.trans b8)
        clear b8 o0 o1 o2 o3 o4 o5
        have o0 := cell_of_row _ _ 0 _ _ _ H8.out
        have o1 := cell_of_row _ _ 1 _ _ _ H8.out
        have o2 := cell_of_row _ _ 2 _ _ _ H8.out
        have o3 := cell_of_row _ _ 3 _ _ _ H8.out
        have o4 := cell_of_row _ _ 4 _ _ _ H8.out
        have o5 := cell_of_row _ _ 5 _ _ _ H8.out
        have t0 := cell_of_row _ _ 0 _ _ _ Q8.out
        have t1 := cell_of_row _ _ 1 _ _ _ Q8.out
        have t2 := cell_of_row _ _ 2 _ _ _ Q8.out
        have t3 := cell_of_row _ _ 3 _ _ _ Q8.out
        have t4 := cell_of_row _ _ 4 _ _ _ Q8.out
        have t5 := cell_of_row _ _ 5 _ _ _ Q8.out
        have f0 := free_row Q8.out 0
        have f1 := free_row Q8.out 1
        have f2 := free_row Q8.out 2
        have f3 := free_row Q8.out 3
        have f4 := free_row Q8.out 4
        have f5 := free_row Q8.out 5
        go_wp2_with fail
        have RY := hid (row6 (x := .slice (some ⟨b1, 0, none⟩) N N) (y := .slice (some ⟨b2, 0, none⟩) N N) (z := .slice (some ⟨b3, 0, none⟩) N N) (p := .slice (some ⟨b4, 0, none⟩) M M) (q := .int .i64 0) (r := .int .i64 0) Q8.out)
        (try simp only [Exit.inBlock, Exit.then])
        refine bodyPost_ret (v := .tuple #[.agg #[.slice (some ⟨b1, 0, none⟩) N N, .slice (some ⟨b2, 0, none⟩) N N, .slice (some ⟨b3, 0, none⟩) N N, .slice (some ⟨b4, 0, none⟩) M M, .int .i64 0, .int .i64 0], .int .i64 0]) ?_ rfl ?_
        · exact res_two Tryz.results22 _ _ gr _ _ (0, 0) _ _ rfl rfl RY.out Tryz.underlying33 rfl (by kernel_rfl)
        obtain ⟨l1, l2, l3, l4, l5⟩ := LL.out
        obtain ⟨n12, n13, n14, n23, n24, n34⟩ := NN.out
        have gl := GL.out
        have hg := HG.out
        have hs := A2.out.size
        have hn := HN.out
        have st_ : ∀ (b n : Nat) (t : TypeId) (f : Nat -> Value), b ≠ gr -> v8.rowIs b t n f -> ∀ x0 x1 x2 x3 x4 x5, ((((((v8.setCell ⟨gr, 0, none⟩ x0).setCell ⟨gr, 1, none⟩ x1).setCell ⟨gr, 2, none⟩ x2).setCell ⟨gr, 3, none⟩ x3).setCell ⟨gr, 4, none⟩ x4).setCell ⟨gr, 5, none⟩ x5).rowIs b t n f := fun b n t f hb h x0 x1 x2 x3 x4 x5 => (((((h.setOther (a := ⟨gr, 0, none⟩) hb x0).setOther (a := ⟨gr, 1, none⟩) hb x1).setOther (a := ⟨gr, 2, none⟩) hb x2).setOther (a := ⟨gr, 3, none⟩) hb x3).setOther (a := ⟨gr, 4, none⟩) hb x4).setOther (a := ⟨gr, 5, none⟩) hb x5
        refine ⟨_, rfl, ((((((A8.out.setk hg _).setk hg _).setk hg _).setk hg _).setk hg _).setk hg _), _, _, _, _, rfl, ?_, ?_, ?_, ?_, ?_, ?_⟩
        · exact ownG_row (st_ b1 _ _ _ (by omega) (rowIs.ab P1.out B8.out) _ _ _ _ _ _) (by omega) (by unfold maxLen; omega)
        · exact own_rowI ((st_ b2 _ _ _ (by omega) (rowIs.ab P2.out B8.out) _ _ _ _ _ _).congr (fun i hi => by rw [if_pos hi])) (by omega) (by unfold maxLen; omega)
        · exact own_rowI (st_ b3 _ _ _ (by omega) (rowIs.ab P3.out B8.out) _ _ _ _ _ _) (by omega) (by unfold maxLen; omega)
        · exact ownG_row (st_ b4 _ _ _ (by omega) (rowIs.ab P4.out B8.out) _ _ _ _ _ _) (by omega) (by unfold maxLen; omega)
        · intro k h1 h2
          simp only [Value.ownBlock, Option.some.injEq] at h1 h2
          omega
        · intro k h1 h2
          simp only [Value.ownBlock, Option.some.injEq] at h1 h2
          omega
theorem rlake_14 (n N M : Nat) (qb ob cb l : Nat) (B : Nat -> Nat) (G : Nat -> Int) (ar : Nat -> Int) (q qw : Int) (w : World) (hn : 1 <= n /\ n <= 32) (hN : 6 * (n : Int) * (n : Int) = (N : Nat)) (hB : N <= 6144) (hM : 2 * (N : Int) = (M : Nat)) (hq : decide (0 <= q) = false) (hl1 : (fgt l 13920626448202203136 || feq l 13920626448202203136) = true) (hl2 : (flt l 4697254411347427328 || feq l 4697254411347427328) = true) (hqw : decide (0 <= qw) = true)
    (FL : Hid (∀ v, Ab w v -> Calls Tryz.prog 38 #[.slice (some ⟨qb, ob, none⟩) N cb, .float .f64 4697254411347427328] v fun e w' => e = .returned (.int .i64 q) /\ Below v.heap.size v w'))
    (NW : Hid (∀ v, Ab w v -> Calls Tryz.prog 53 #[.int .i64 (n : Nat)] v fun e w' => ∃ rb, e = .returned (.tuple #[.pointer (some ⟨rb, 0, none⟩), .int .i64 0]) /\ Below v.heap.size v w' /\ RefOf n rb w'))
    (AR : Hid (∀ v rb (c : Nat), RefOf n rb v -> c < N -> Calls Tryz.prog 63 #[.pointer (some ⟨rb, 0, none⟩), .int .i64 (c : Nat)] v fun e w' => e = .returned (.int .i64 (ar c)) /\ Below v.heap.size v w'))
    (FI : Hid (∀ v (c : Nat), c < N -> Calls Tryz.prog 62 #[.float .f64 (B c), .int .i64 (ar c), .float .f64 l] v fun e w' => e = .returned (.int .i64 (G c)) /\ Below v.heap.size v w'))
    (QU : Hid (∀ v b, Sh.IsI v (some ⟨b, 0, none⟩) N G -> Calls Tryz.prog 39 #[.slice (some ⟨b, 0, none⟩) N N, .int .i64 0] v fun e w' => e = .returned (.int .i64 qw) /\ Below v.heap.size v w'))
    (GW : Hid (∀ c, c < N -> Sh.W64 (G c))) (IB : Hid (IsFl w (some ⟨qb, ob, none⟩) N B)) :
    Calls Tryz.prog 22 #[.int .i64 (n : Nat), .slice (some ⟨qb, ob, none⟩) N cb, .float .f64 l] w fun e w' => e = .returned (.tuple #[.agg #[.slice none 0 0, .slice none 0 0, .slice none 0 0, .slice none 0 0, .int .i64 0, .int .i64 0], .int .i64 14]) /\ Below w.heap.size w w' := by
  have d1 : decide ((n : Int) < 1) = false := decide_eq_false (by omega)
  have d2 : decide (32 < (n : Int)) = false := decide_eq_false (by omega)
  have d3 : decide (n < 1) = false := decide_eq_false (by omega)
  have d4 : decide (32 < n) = false := decide_eq_false (by omega)
  have c1 : (n : Int) <= 32 := by omega
  have m1 : -9223372036854775808 <= 6 * (n : Int) * (n : Int) := by rw [hN]; omega
  have m2 : 6 * (n : Int) * (n : Int) <= 9223372036854775807 := by rw [hN]; omega
  have e1 : ((N : Int) != (N : Int)) = false := by simp
  have M2 : ∀ v : World, (Instr.makeSlice 31 (.int .i64 (N : Nat)) (.int .i64 (N : Nat))).run Tryz.prog v = .ok (.slice (some ⟨v.heap.size, 0, none⟩) N N) (v.alloc (Obj.cells (madeCells #[.int .i64 0] N) 2)) := fun v => run_make_row' (P := Tryz.prog) 31 2 (.int .i64 0) 8 Tryz.underlying31 info64 rfl .i64 .i64 N (by omega) (by omega) v
  have M4 : ∀ v : World, (Instr.makeSlice 30 (.int .i64 (M : Nat)) (.int .i64 (M : Nat))).run Tryz.prog v = .ok (.slice (some ⟨v.heap.size, 0, none⟩) M M) (v.alloc (Obj.cells (madeCells #[.float .f64 0] M) 22)) := fun v => run_make_row' (P := Tryz.prog) 30 22 (.float .f64 0) 8 Tryz.underlying30 info_f20 rfl .i64 .i64 M (by omega) (by omega) v
  have AL : ∀ v : World, (Instr.alloc 33 true (.tuple #[])).run Tryz.prog v = .ok (.pointer (some ⟨v.heap.size, 0, none⟩)) (v.alloc (.cells #[.slice none 0 0, .slice none 0 0, .slice none 0 0, .slice none 0 0, .int .i64 0, .int .i64 0] 33)) := fun v => by
    simp [go_sem]
  have nB : (N : Int) <= 6144 := by omega
  have HN := hid (And.intro hB (show M <= 12288 by omega))
  clear hn hB
  have A0 : Hid (Ab w (w.alloc (.cells #[.slice none 0 0, .slice none 0 0, .slice none 0 0, .slice none 0 0, .int .i64 0, .int .i64 0] 33))) := bl1 _ _
  have Q0 : Hid ((w.alloc (.cells #[.slice none 0 0, .slice none 0 0, .slice none 0 0, .slice none 0 0, .int .i64 0, .int .i64 0] 33)).heap[w.heap.size]? = some (.cells #[.slice none 0 0, .slice none 0 0, .slice none 0 0, .slice none 0 0, .int .i64 0, .int .i64 0] 33)) := heap_alloc_new _ _
  go_enter Tryz.func22, Tryz.ntmps22
  go_upto_region 1 with fail
  generalize hW : World.alloc w _ = V0 at *
  obtain ⟨gr, hgr⟩ : ∃ g, w.heap.size = g := ⟨_, rfl⟩
  have HG : Hid (w.heap.size <= gr) := by show _ <= _; omega
  rw [hgr] at Q0 ⊢
  clear hgr hW
  go_wp2_with fail
  refine (FL.out _ A0.out).mono ?_
  rintro e9 v1 ⟨rfl, b1⟩
  have A1 : Hid (Ab w v1) := A0.out.trans b1
  have Q1 := hid (Ab.heap b1 Q0.out)
  clear b1 A0 Q0
  go_wp2_with fail
  refine (NW.out _ A1.out).mono ?_
  rintro e9 v2 ⟨rb, rfl, b2, g2⟩
  have A2 : Hid (Ab w v2) := A1.out.trans b2
  have Q2 := hid (Ab.heap b2 Q1.out)
  have G2 := hid g2
  clear b2 g2 Q1 A1 FL NW
  go_upto_region 12 with fail
  go_cut [12] from 48 to 57 (fun s12 wx => ∃ g5 b1 b2 b3 b4, s12 = .pointer (some ⟨g5, 0, none⟩) /\ Ab v2 wx /\ wx.heap[g5]? = some (.cells #[.slice (some ⟨b1, 0, none⟩) N N, .slice (some ⟨b2, 0, none⟩) N N, .slice (some ⟨b3, 0, none⟩) N N, .slice (some ⟨b4, 0, none⟩) M M, .int .i64 0, .int .i64 0] 33) /\ wx.heap[b1]? = some (Obj.cells ((List.range N).map (fun i => Value.float .f64 (B i))).toArray 22) /\ wx.heap[b2]? = some (Obj.cells (madeCells #[.int .i64 0] N) 2) /\ wx.heap[b3]? = some (Obj.cells (madeCells #[.int .i64 0] N) 2) /\ wx.heap[b4]? = some (Obj.cells (madeCells #[.float .f64 0] M) 22) /\ (v2.heap.size <= b1 /\ v2.heap.size <= b2 /\ v2.heap.size <= b3 /\ v2.heap.size <= b4 /\ v2.heap.size <= g5) /\ (b1 ≠ b2 /\ b1 ≠ b3 /\ b1 ≠ b4 /\ b2 ≠ b3 /\ b2 ≠ b4 /\ b3 ≠ b4) /\ (b1 ≠ g5 /\ b2 ≠ g5 /\ b3 ≠ g5 /\ b4 ≠ g5))
  case first =>
    obtain ⟨UU, E, hF1, hF2⟩ := cls v2.drew
    have HU := hid hF2
    have HU1 := hid hF1
    have C1 : Hid (∀ v, Ab v2.drew v -> Calls Tryz.prog 61 #[.slice (some ⟨qb, ob, none⟩) N cb] v (fun e w2 => ∃ b, e = .returned (.slice (some ⟨b, 0, none⟩) N N) /\ Ab v w2 /\ v.heap.size <= b /\ w2.heap[b]? = some (Obj.cells ((List.range N).map (fun i => Value.float .f64 (B i))).toArray 22))) := fun v a => (Fc.rcopied16 (some ⟨qb, ob, none⟩) N cb B v (by have := HN.out; omega) (IB.out.below (A2.out.trans ((Ab.refl v2).drew.trans a)))).mono fun e w2 h => by
      obtain ⟨b, rfl, k1, k2, k3⟩ := h
      exact ⟨b, rfl, k1, k3, row_obj k2⟩
    clear hF1 hF2
    refine Cf.region_free 11 (fun k => if k = 1 then some ((Obj.cells ((List.range N).map (fun i => Value.float .f64 (B i))).toArray 22), fun b => .slice (some ⟨b, 0, none⟩) N N) else if k = 3 then some ((Obj.cells (madeCells #[.int .i64 0] N) 2), fun b => .slice (some ⟨b, 0, none⟩) N N) else if k = 5 then some ((Obj.cells (madeCells #[.int .i64 0] N) 2), fun b => .slice (some ⟨b, 0, none⟩) N N) else if k = 8 then some ((Obj.cells (madeCells #[.float .f64 0] M) 22), fun b => .slice (some ⟨b, 0, none⟩) M M) else if k = 10 then some ((.cells #[.slice none 0 0, .slice none 0 0, .slice none 0 0, .slice none 0 0, .int .i64 0, .int .i64 0] 33), fun b => .pointer (some ⟨b, 0, none⟩)) else none) (by kernel_rfl) (by kernel_rfl) (by kernel_rfl) ?_
    simp only [List.take_succ_cons, List.take_zero]
    refine Cf.wpFree_one HU (by rfl) (by rfl) ?_
    go_big_quiet_step (with_reducible rfl)
    refine wpQuiet_nil ?_
    refine Cf.wpFree_lay (ob := (Obj.cells ((List.range N).map (fun i => Value.float .f64 (B i))).toArray 22)) (mk := fun b => .slice (some ⟨b, 0, none⟩) N N) (by rfl) (by kernel_rfl) ?_ ?_
    · refine Cf.lay_call (f := 61) (args := #[.slice (some ⟨qb, ob, none⟩) N cb]) ?_ C1.out
      intro v
      refine enter_run (x := .tmp 48) (ats := #[30]) (by rfl) (by rfl) Tryz.func61 (by kernel_rfl) (by kernel_rfl) v
    intro b1 fb1
    simp only [Act.put, List.setIfInBounds_toArray, List.set_cons_succ, List.set_cons_zero]
    refine Cf.wpFree_one HU (by rfl) (by rfl) ?_
    go_big_quiet_step (with_reducible rfl)
    refine wpQuiet_nil ?_
    refine Cf.wpFree_lay (ob := (Obj.cells (madeCells #[.int .i64 0] N) 2)) (mk := fun b => .slice (some ⟨b, 0, none⟩) N N) (by rfl) (by kernel_rfl) ?_ ?_
    · refine Cf.lay_run (lay_make (vx := .int .i64 (N : Nat)) (vy := .int .i64 (N : Nat)) (ob := (Obj.cells (madeCells #[.int .i64 0] N) 2)) (mk := fun b => .slice (some ⟨b, 0, none⟩) N N) rfl ?_ ?_ ?_)
      · rfl
      · rfl
      · exact M2
    intro b2 fb2
    simp only [Act.put, List.setIfInBounds_toArray, List.set_cons_succ, List.set_cons_zero]
    refine Cf.wpFree_one HU (by rfl) (by rfl) ?_
    go_big_quiet_step (with_reducible rfl)
    refine wpQuiet_nil ?_
    refine Cf.wpFree_lay (ob := (Obj.cells (madeCells #[.int .i64 0] N) 2)) (mk := fun b => .slice (some ⟨b, 0, none⟩) N N) (by rfl) (by kernel_rfl) ?_ ?_
    · refine Cf.lay_run (lay_make (vx := .int .i64 (N : Nat)) (vy := .int .i64 (N : Nat)) (ob := (Obj.cells (madeCells #[.int .i64 0] N) 2)) (mk := fun b => .slice (some ⟨b, 0, none⟩) N N) rfl ?_ ?_ ?_)
      · rfl
      · rfl
      · exact M2
    intro b3 fb3
    simp only [Act.put, List.setIfInBounds_toArray, List.set_cons_succ, List.set_cons_zero]
    refine Cf.wpFree_one HU (by rfl) (by rfl) ?_
    go_big_quiet_step (with_reducible rfl)
    refine wpQuiet_nil ?_
    refine Cf.wpFree_one HU (by rfl) (by rfl) ?_
    go_big_quiet_step (with_reducible rfl)
    refine wpQuiet_nil ?_
    refine Cf.wpFree_lay (ob := (Obj.cells (madeCells #[.float .f64 0] M) 22)) (mk := fun b => .slice (some ⟨b, 0, none⟩) M M) (by rfl) (by kernel_rfl) ?_ ?_
    · refine Cf.lay_run (lay_make (vx := .int .i64 (M : Nat)) (vy := .int .i64 (M : Nat)) (ob := (Obj.cells (madeCells #[.float .f64 0] M) 22)) (mk := fun b => .slice (some ⟨b, 0, none⟩) M M) rfl ?_ ?_ ?_)
      · rfl
      · rfl
      · exact M4
    intro b4 fb4
    simp only [Act.put, List.setIfInBounds_toArray, List.set_cons_succ, List.set_cons_zero]
    refine Cf.wpFree_one HU (by rfl) (by rfl) ?_
    go_big_quiet_step (with_reducible rfl)
    refine wpQuiet_nil ?_
    refine Cf.wpFree_lay (ob := (.cells #[.slice none 0 0, .slice none 0 0, .slice none 0 0, .slice none 0 0, .int .i64 0, .int .i64 0] 33)) (mk := fun b => .pointer (some ⟨b, 0, none⟩)) (by rfl) (by kernel_rfl) ?_ ?_
    · refine Cf.lay_run (lay_alloc (ob := (.cells #[.slice none 0 0, .slice none 0 0, .slice none 0 0, .slice none 0 0, .int .i64 0, .int .i64 0] 33)) (mk := fun b => .pointer (some ⟨b, 0, none⟩)) rfl ?_)
      exact AL
    intro g5 fg5
    simp only [Act.put, List.setIfInBounds_toArray, List.set_cons_succ, List.set_cons_zero]
    refine Cf.wpFree_nil ?_
    intro wz hz
    have h1 := hz.at (i := 1) (b := b1) (ob := (Obj.cells ((List.range N).map (fun i => Value.float .f64 (B i))).toArray 22)) (by rfl) (by rfl)
    have h2 := hz.at (i := 3) (b := b2) (ob := (Obj.cells (madeCells #[.int .i64 0] N) 2)) (by rfl) (by rfl)
    have h3 := hz.at (i := 5) (b := b3) (ob := (Obj.cells (madeCells #[.int .i64 0] N) 2)) (by rfl) (by rfl)
    have h4 := hz.at (i := 8) (b := b4) (ob := (Obj.cells (madeCells #[.float .f64 0] M) 22)) (by rfl) (by rfl)
    have h5 := hz.at (i := 10) (b := g5) (ob := (.cells #[.slice none 0 0, .slice none 0 0, .slice none 0 0, .slice none 0 0, .int .i64 0, .int .i64 0] 33)) (by rfl) (by rfl)
    have n12 : b1 ≠ b2 := fb2.2 1 b1 (by rfl)
    have n13 : b1 ≠ b3 := fb3.2 1 b1 (by rfl)
    have n14 : b1 ≠ b4 := fb4.2 1 b1 (by rfl)
    have n15 : b1 ≠ g5 := fg5.2 1 b1 (by rfl)
    have n23 : b2 ≠ b3 := fb3.2 3 b2 (by rfl)
    have n24 : b2 ≠ b4 := fb4.2 3 b2 (by rfl)
    have n25 : b2 ≠ g5 := fg5.2 3 b2 (by rfl)
    have n34 : b3 ≠ b4 := fb4.2 5 b3 (by rfl)
    have n35 : b3 ≠ g5 := fg5.2 5 b3 (by rfl)
    have n45 : b4 ≠ g5 := fg5.2 8 b4 (by rfl)
    have AZ : Ab v2 wz := (Ab.refl v2).drew.trans hz.1
    have RZ := hid h5.1
    have HH := hid (And.intro h1 (And.intro h2 (And.intro h3 (And.intro h4 h5))))
    have NN := hid (And.intro (And.intro n12 (And.intro n13 (And.intro n14 (And.intro n23 (And.intro n24 n34))))) (And.intro n15 (And.intro n25 (And.intro n35 n45))))
    have HAZ := hid AZ
    clear hz fb1 fb2 fb3 fb4 fg5 h1 h2 h3 h4 h5 n12 n13 n14 n15 n23 n24 n25 n34 n35 n45 AZ HU HU1 C1
    clear E UU
    have t0 := cell_of_row _ _ 0 _ _ _ RZ.out
    have t1 := cell_of_row _ _ 1 _ _ _ RZ.out
    have t2 := cell_of_row _ _ 2 _ _ _ RZ.out
    have t3 := cell_of_row _ _ 3 _ _ _ RZ.out
    have t4 := cell_of_row _ _ 4 _ _ _ RZ.out
    have t5 := cell_of_row _ _ 5 _ _ _ RZ.out
    have f0 := free_row RZ.out 0
    have f1 := free_row RZ.out 1
    have f2 := free_row RZ.out 2
    have f3 := free_row RZ.out 3
    have f4 := free_row RZ.out 4
    have f5 := free_row RZ.out 5
    simp only [List.drop_succ_cons, List.drop_zero]
    go_wp2_with fail
    go_meet
    obtain ⟨⟨k1, l1⟩, ⟨k2, l2⟩, ⟨k3, l3⟩, ⟨k4, l4⟩, ⟨k5, l5⟩⟩ := HH.out
    have st_ : ∀ (b : Nat) (o : Obj), b ≠ g5 -> wz.heap[b]? = some o -> ∀ x0 x1 x2 x3 x4 x5, ((((((wz.setCell ⟨g5, 0, none⟩ x0).setCell ⟨g5, 1, none⟩ x1).setCell ⟨g5, 2, none⟩ x2).setCell ⟨g5, 3, none⟩ x3).setCell ⟨g5, 4, none⟩ x4).setCell ⟨g5, 5, none⟩ x5).heap[b]? = some o := fun b o hb h x0 x1 x2 x3 x4 x5 => by
      rw [heap_set_ne hb, heap_set_ne hb, heap_set_ne hb, heap_set_ne hb, heap_set_ne hb, heap_set_ne hb]
      exact h
    refine ⟨g5, b1, b2, b3, b4, rfl, ?_, row6 k5, st_ b1 _ NN.out.2.1 k1 _ _ _ _ _ _, st_ b2 _ NN.out.2.2.1 k2 _ _ _ _ _ _, st_ b3 _ NN.out.2.2.2.1 k3 _ _ _ _ _ _, st_ b4 _ NN.out.2.2.2.2 k4 _ _ _ _ _ _, ⟨l1, l2, l3, l4, l5⟩, NN.out.1, NN.out.2⟩
    exact (((((HAZ.out.setk l5 _).setk l5 _).setk l5 _).setk l5 _).setk l5 _).setk l5 _
  case rest =>
    obtain ⟨g5, b1, b2, b3, b4, rfl, a3, r5, m1', m2', m3, m4, hl, hne, hng⟩ := hcut
    rename World => v3
    have A3 : Hid (Ab v2 v3) := a3
    have R5 := hid r5
    have N1 : Hid (v3.rowIs b1 22 N (fun i => .float .f64 (B i))) := obj_row m1'
    have N2 : Hid (v3.rowIs b2 2 N (fun _ => .int .i64 0)) := made_row m2'
    have N3 : Hid (v3.rowIs b3 2 N (fun _ => .int .i64 0)) := made_row m3
    have N4 : Hid (v3.rowIs b4 22 M (fun _ => .float .f64 0)) := made_row m4
    have LL := hid hl
    have NN := hid hne
    have NG := hid hng
    clear a3 r5 m1' m2' m3 m4 hl hne hng M2 M4 AL
    go_wp2
    go_loopw [13] (fun iv wr => ∃ (k : Nat), k <= N /\ iv = .int .i64 (k : Nat) /\ Ab v2 wr /\ wr.heap[g5]? = some (.cells #[.slice (some ⟨b1, 0, none⟩) N N, .slice (some ⟨b2, 0, none⟩) N N, .slice (some ⟨b3, 0, none⟩) N N, .slice (some ⟨b4, 0, none⟩) M M, .int .i64 0, .int .i64 0] 33) /\ wr.rowIs b1 22 N (fun i => .float .f64 (B i)) /\ wr.rowIs b2 2 N (fun i => .int .i64 (if i < k then G i else 0)) /\ wr.rowIs b3 2 N (fun _ => .int .i64 0) /\ wr.rowIs b4 22 M (fun _ => .float .f64 0)) (fun iv _ => N - (intOf iv).toNat)
    case atStart => exact ⟨0, by omega, rfl, A3.out, R5.out, N1.out, N2.out.congr (fun i _ => by simp), N3.out, N4.out⟩
    case round =>
      obtain ⟨k, hk, rfl, ar', h5, r1, r2, r3, r4⟩ := hrel
      have AW := hid ar'
      have H5 := hid h5
      have P1 := hid r1
      have P2 := hid r2
      have P3 := hid r3
      have P4 := hid r4
      clear ar' h5 r1 r2 r3 r4 N1 N2 N3 N4 R5 A3
      by_cases hkn : k < N
      · have HK := hid hkn
        have kI : (k : Int) < N := by omega
        have kB : (k : Int) <= 6144 := by have := HN.out.1; omega
        have CA : Hid (∀ v, Ab wr v -> Calls Tryz.prog 63 #[.pointer (some ⟨rb, 0, none⟩), .int .i64 (k : Nat)] v fun e w' => e = .returned (.int .i64 (ar k)) /\ Below v.heap.size v w') := fun v a => AR.out v rb k (G2.out.to (AW.out.trans a)) hkn
        have CF := hid (fun v => FI.out v k hkn)
        obtain ⟨x, hx⟩ : ∃ x, B k = x := ⟨_, rfl⟩
        obtain ⟨y, hy⟩ : ∃ x, G k = x := ⟨_, rfl⟩
        have YE := hid hy
        have YB : Hid (∀ v, Ab w v -> v.cell? ⟨qb, ob + k, none⟩ = some (.float .f64 x)) := fun v a => by rw [<- hx]; exact ((IB.out.below a).at0 hkn).2.2
        rw [hx, hy] at CF
        clear hx hy hkn hk
        go_upto_region 16 with fail
        obtain ⟨UU, E, hF1, hF2⟩ := cls wr
        have HU := hid hF2
        have HU1 := hid hF1
        have y0 : ∀ u, (E u).cell? ⟨g5, 1, none⟩ = some (.slice (some ⟨b2, 0, none⟩) N N) := fun u => cell_of_row _ _ 1 _ _ _ ((hF1 u).heap H5.out)
        have y2 : ∀ u, (E u).cell? ⟨qb, ob + k, none⟩ = some (.float .f64 x) := fun u => YB.out _ (A2.out.trans (AW.out.trans (hF1 u)))
        have DD0 := HU.out _ (Ab.refl wr).drew
        clear hF1 hF2
        refine region_tail 13 E (by kernel_rfl) (by kernel_rfl) (by kernel_rfl) DD0 ?_
        simp only [List.take_succ_cons, List.take_zero, List.drop_succ_cons, List.drop_zero]
        repeat (go_big_quiet_step (first | (go_at_call 63; exact calls_cls HU HU1 (CA.out _ (HU1.out _))) | (go_at_call 62; exact calls_cls HU HU1 (CF.out _)) | (with_reducible rfl)))
        refine wpQuiet_nil ?_
        intro z hwz
        obtain ⟨u0, hu⟩ := hwz
        have AZ : Hid (Ab wr z) := by rw [hu]; exact HU1.out u0
        clear hu u0
        clear HU HU1 DD0 y0 y2
        clear E UU
        have z1 := (rowIs.ab P2.out AZ.out).cell HK.out
        have z2 := (rowIs.ab P2.out AZ.out).frozen k
        go_wp2_with fail
        refine ⟨⟨k + 1, by have := HK.out; omega, by simp, (AW.out.trans AZ.out).setk LL.out.2.1 _, (heap_set_ne (Ne.symm NG.out.2.1)).trans (Ab.heap AZ.out H5.out), (rowIs.ab P1.out AZ.out).setOther (a := ⟨b2, k, none⟩) NN.out.1 _, ((rowIs.ab P2.out AZ.out).set k _).congr (fun i _ => ?_), (rowIs.ab P3.out AZ.out).setOther (a := ⟨b2, k, none⟩) (Ne.symm NN.out.2.2.2.1) _, (rowIs.ab P4.out AZ.out).setOther (a := ⟨b2, k, none⟩) (Ne.symm NN.out.2.2.2.2.1) _⟩, by have := HK.out; simp [intOf]; omega⟩
        by_cases e : i = k
        · subst e; simp [YE.out]
        · have e2 : (i < k + 1) ↔ i < k := by omega
          simp [e, e2]
      · have e6 : N = k := by omega
        subst e6
        have CQ := hid (QU.out wr b2 (fun i hi => ⟨GW.out i hi, b2, 0, rfl, P2.out.lt, by have h := P2.out.cell hi; rw [if_pos hi] at h; rw [Nat.zero_add]; exact h⟩))
        clear hkn hk
        have o0 := cell_of_row _ _ 0 _ _ _ H5.out
        have o1 := cell_of_row _ _ 1 _ _ _ H5.out
        have o2 := cell_of_row _ _ 2 _ _ _ H5.out
        have o3 := cell_of_row _ _ 3 _ _ _ H5.out
        have o4 := cell_of_row _ _ 4 _ _ _ H5.out
        have o5 := cell_of_row _ _ 5 _ _ _ H5.out
        go_wp2_with fail
        refine CQ.out.mono ?_
        rintro e9 v8 ⟨rfl, b8⟩
        have B8 : Hid (Ab wr v8) := b8
        have H8 := hid (Ab.heap b8 H5.out)
        have Q8 : Hid (v8.heap[gr]? = some (.cells #[.slice none 0 0, .slice none 0 0, .slice none 0 0, .slice none 0 0, .int .i64 0, .int .i64 0] 33)) := Ab.heap (AW.out.trans b8) Q2.out
        have GL : Hid (gr < v2.heap.size) := Rv.lt_of_get Q2.out
        have A8 : Hid (Ab w v8) := A2.out.trans (AW.out.trans b8)
        clear b8 o0 o1 o2 o3 o4 o5
        have t0 := cell_of_row _ _ 0 _ _ _ Q8.out
        have t1 := cell_of_row _ _ 1 _ _ _ Q8.out
        have t2 := cell_of_row _ _ 2 _ _ _ Q8.out
        have t3 := cell_of_row _ _ 3 _ _ _ Q8.out
        have t4 := cell_of_row _ _ 4 _ _ _ Q8.out
        have t5 := cell_of_row _ _ 5 _ _ _ Q8.out
        have f0 := free_row Q8.out 0
        have f1 := free_row Q8.out 1
        have f2 := free_row Q8.out 2
        have f3 := free_row Q8.out 3
        have f4 := free_row Q8.out 4
        have f5 := free_row Q8.out 5
        go_wp2_with fail
        (try simp only [Exit.inBlock, Exit.then])
        refine bodyPost_ret (v := .tuple #[.agg #[.slice none 0 0, .slice none 0 0, .slice none 0 0, .slice none 0 0, .int .i64 0, .int .i64 0], .int .i64 14]) ?_ rfl ?_
        · exact res_two Tryz.results22 _ _ gr _ _ (0, 0) _ _ rfl rfl (row6 Q8.out) Tryz.underlying33 rfl (by kernel_rfl)
        · exact ⟨rfl, (((((A8.out.setk HG.out _).setk HG.out _).setk HG.out _).setk HG.out _).setk HG.out _).setk HG.out _⟩
theorem rlake_at (side : Int) (pb : Option Addr) (lb cb : Nat) (B : Nat -> Nat) (l : Nat) (w : World) (hl : lb <= 131072) (hL : l < 18446744073709551616) (ib : IsFl w pb lb B) :
    (lkE side lb B l = 0 -> Calls Tryz.prog 22 #[.int .i64 side, .slice pb lb cb, .float .f64 l] w fun e w' => ∃ v, e = .returned (.tuple #[v, .int .i64 0]) /\ Below w.heap.size w w' /\ OwnS w.heap.size v lb lb lb (2 * lb) B (lkW side.toNat B l) (fun _ => 0) (fun _ => 0) 0 0 w') ∧
    (lkE side lb B l ≠ 0 -> Calls Tryz.prog 22 #[.int .i64 side, .slice pb lb cb, .float .f64 l] w fun e w' => e = .returned (.tuple #[.agg #[.slice none 0 0, .slice none 0 0, .slice none 0 0, .slice none 0 0, .int .i64 0, .int .i64 0], .int .i64 (lkE side lb B l)]) /\ Below w.heap.size w w') := by
  by_cases h1 : 1 <= side /\ side <= 32
  · obtain ⟨n, rfl⟩ : ∃ n : Nat, side = (n : Nat) := ⟨side.toNat, by omega⟩
    have hn : 1 <= n /\ n <= 32 := by omega
    have p1 : 0 < n * n := Nat.mul_pos (by omega) (by omega)
    have p2 : n * n <= 32 * 32 := Nat.mul_le_mul hn.2 hn.2
    have q6 : 6 * n * n = 6 * (n * n) := Nat.mul_assoc _ _ _
    have hN : 6 * (n : Int) * (n : Int) = ((6 * n * n : Nat) : Int) := by rw [Int.natCast_mul, Int.natCast_mul]; rfl
    have hB : 6 * n * n <= 6144 := by omega
    by_cases h2 : lb = 6 * n * n
    · have FL : ∀ v, Ab w v -> Calls Tryz.prog 38 #[.slice pb lb cb, .float .f64 4697254411347427328] v fun e w' => e = .returned (.int .i64 (fp (bB B) lb)) /\ Below v.heap.size v w' := fun v a => (rfloats20 pb lb cb B 4697254411347427328 13920626448202203136 (bB B) v (by decide +kernel) hl (ib.below a) (fun i _ => rfl)).mono fun e w' h => ⟨h.1, by rw [h.2]; exact Below.refl _ _⟩
      by_cases h3 : 0 <= fp (bB B) lb
      · have te : lkE (n : Nat) lb B l = 13 := by
          unfold lkE
          rw [if_neg (fun q => q h1), Int.toNat_natCast, if_neg (fun q => q h2), if_pos h3]
        refine ⟨fun q => absurd (te.symm.trans q) (by decide), fun _ => ?_⟩
        rw [te]
        obtain ⟨q, hq⟩ : ∃ q, fp (bB B) lb = q := ⟨_, rfl⟩
        rw [hq] at FL h3
        clear te hq
        subst h2
        exact rlake_13 n (6 * n * n) pb cb l q w hn hN hB (decide_eq_true h3) FL
      · cases h4 : ((fgt l 13920626448202203136 || feq l 13920626448202203136) && (flt l 4697254411347427328 || feq l 4697254411347427328)) with
        | false =>
          have te : lkE (n : Nat) lb B l = 1 := by
            unfold lkE
            rw [if_neg (fun q => q h1), Int.toNat_natCast, if_neg (fun q => q h2), if_neg h3, if_pos h4]
          refine ⟨fun q => absurd (te.symm.trans q) (by decide), fun _ => ?_⟩
          rw [te]
          obtain ⟨q, hq⟩ : ∃ q, fp (bB B) lb = q := ⟨_, rfl⟩
          rw [hq] at FL h3
          clear te hq
          subst h2
          exact rlake_1 n (6 * n * n) pb cb l q w hn hN hB (decide_eq_false h3) h4 FL
        | true =>
          have h5 := (Bool.and_eq_true _ _).mp h4
          have NW : ∀ v, Ab w v -> Calls Tryz.prog 53 #[.int .i64 (n : Nat)] v fun e w' => ∃ rb, e = .returned (.tuple #[.pointer (some ⟨rb, 0, none⟩), .int .i64 0]) /\ Below v.heap.size v w' /\ RefOf n rb w' := fun v _ => (rnew_at n v hn).mono fun e w' h => by
            obtain ⟨rb, ab, es, rfl, a1, re⟩ := h
            exact ⟨rb, rfl, a1, RE.all hn.1 re⟩
          have AR : ∀ v rb (c : Nat), RefOf n rb v -> c < 6 * n * n -> Calls Tryz.prog 63 #[.pointer (some ⟨rb, 0, none⟩), .int .i64 (c : Nat)] v fun e w' => e = .returned (.int .i64 (arC n c)) /\ Below v.heap.size v w' := fun v rb c g hc => rArea_at (fun u => rarea_ok n c u hn hc) g
          have bl : ∀ c, c < 6 * n * n -> B c < 18446744073709551616 := fun c hc => (ib c (by omega)).1
          have FI : ∀ v (c : Nat), c < 6 * n * n -> Calls Tryz.prog 62 #[.float .f64 (B c), .int .i64 (arC n c), .float .f64 l] v fun e w' => e = .returned (.int .i64 (lkW n B l c)) /\ Below v.heap.size v w' := fun v c hc => (rfill_at11 (B c) (arC n c) l v (bl c hc) hL (arC_in n c).2).mono fun e w' h => ⟨h.1, by obtain ⟨k, hk⟩ := h.2; rw [hk]; exact Ab.drewN (Ab.refl v) k⟩
          have GW : ∀ c, c < 6 * n * n -> Sh.W64 (lkW n B l c) := fun c hc => by
            have h := fil_in hL (bl c hc) (arC_in n c).2
            unfold Sh.W64 lkW
            omega
          obtain ⟨q, hq⟩ : ∃ q, fp (bB B) lb = q := ⟨_, rfl⟩
          obtain ⟨qw, hqw⟩ : ∃ q, fp (bQ (lkW n B l) 0) lb = q := ⟨_, rfl⟩
          have te : lkE (n : Nat) lb B l = if 0 <= qw then 14 else 0 := by
            unfold lkE
            rw [if_neg (fun q => q h1), Int.toNat_natCast, if_neg (fun q => q h2), if_neg h3, if_neg (by rw [h4]; decide), hqw]
          rw [hq] at FL h3
          rw [Int.toNat_natCast]
          clear hq
          subst h2
          have QU : ∀ v b, Sh.IsI v (some ⟨b, 0, none⟩) (6 * n * n) (lkW n B l) -> Calls Tryz.prog 39 #[.slice (some ⟨b, 0, none⟩) (6 * n * n) (6 * n * n), .int .i64 0] v fun e w' => e = .returned (.int .i64 qw) /\ Below v.heap.size v w' := fun v b hI => by
            have h := rquanta20 (some ⟨b, 0, none⟩) (6 * n * n) (6 * n * n) (lkW n B l) 0 v hl hI (by omega)
            rw [hqw] at h
            exact h.mono fun e w' h => ⟨h.1, by rw [h.2]; exact Below.refl _ _⟩
          obtain ⟨qb, ob, rfl⟩ := ib.some0 (show 0 < 6 * n * n by omega)
          by_cases h6 : 0 <= qw
          · rw [if_pos h6] at te
            refine ⟨fun q => absurd (te.symm.trans q) (by decide), fun _ => ?_⟩
            rw [te]
            exact rlake_14 n (6 * n * n) (2 * (6 * n * n)) qb ob cb l B (lkW n B l) (arC n) q qw w hn hN hB (by omega) (decide_eq_false h3) h5.1 h5.2 (decide_eq_true h6) FL NW AR FI QU GW ib
          · rw [if_neg h6] at te
            refine ⟨fun _ => ?_, fun q => absurd te q⟩
            exact rlake_go n (6 * n * n) (2 * (6 * n * n)) qb ob cb l B (lkW n B l) (arC n) q qw w hn hN hB (by omega) (decide_eq_false h3) h5.1 h5.2 (decide_eq_false h6) FL NW AR FI QU GW ib
    · have te : lkE (n : Nat) lb B l = 12 := by
        unfold lkE
        rw [if_neg (fun q => q h1), Int.toNat_natCast, if_pos h2]
      refine ⟨fun q => absurd (te.symm.trans q) (by decide), fun _ => ?_⟩
      rw [te]
      exact rlake_12 n (6 * n * n) pb lb cb l w hn hN hB h2
  · have te : lkE side lb B l = 10 := by
      unfold lkE
      rw [if_pos h1]
    refine ⟨fun q => absurd (te.symm.trans q) (by decide), fun _ => ?_⟩
    rw [te]
    exact rlake_10 side pb lb cb l w h1
end Ss
end Go.Proofs.YtdigecacmibkpaaGreatDoor
