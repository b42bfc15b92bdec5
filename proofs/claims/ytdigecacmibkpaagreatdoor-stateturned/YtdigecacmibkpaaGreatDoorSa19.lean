/-
  Some of the texts of this proof, one behind the other.
-/
import Derived.Test.YtdigecacmibkpaaGreatDoorSa18
namespace Go.Proofs.YtdigecacmibkpaaGreatDoor
open Go.RowKit Tf Cu Go.Deep
attribute [local go_sem] run_bits run_from raw_feq raw_fne raw_flt raw_fgt run_neg run_store_float
namespace Ss
theorem info_f20 : (Tryz.prog.info? 22).map (fun i => (i.zero, i.size, i.bytes)) = some (some (.float .f64 0), 1, 8) := by kernel_rfl
set_option maxRecDepth 100000 in
set_option maxHeartbeats 64000000 in
theorem rturned_chk (side : Int) (pb : Option Addr) (lb cb : Nat) (pw : Option Addr) (lw cw : Nat) (pt : Option Addr) (lt ct : Nat) (ps : Option Addr) (ls cs : Nat) (sky st : Int) (turn ca ce : Int) (w : World) (hc : (ce != 0) = true)
    (CK : Hid (∀ v, Ab w v → Calls Tryz.prog 14 #[.int .i64 side, .agg #[.slice pb lb cb, .slice pw lw cw, .slice pt lt ct, .slice ps ls cs, .int .i64 sky, .int .i64 st]] v fun e w' => e = .returned (.tuple #[.int .i64 ca, .int .i64 ce]) ∧ Below v.heap.size v w')) :
    Calls Tryz.prog 20 #[.int .i64 side, .agg #[.slice pb lb cb, .slice pw lw cw, .slice pt lt ct, .slice ps ls cs, .int .i64 sky, .int .i64 st], .int .i64 turn] w fun e w' => e = .returned (.tuple #[.agg #[.slice none 0 0, .slice none 0 0, .slice none 0 0, .slice none 0 0, .int .i64 0, .int .i64 0], .int .i64 ce]) ∧ Below w.heap.size w w' := by
  have A0 : Hid (Ab w ((w.alloc (.cells #[.slice pb lb cb, .slice pw lw cw, .slice pt lt ct, .slice ps ls cs, .int .i64 sky, .int .i64 st] 33)).alloc (.cells #[.slice none 0 0, .slice none 0 0, .slice none 0 0, .slice none 0 0, .int .i64 0, .int .i64 0] 33))) := bl2 _ _ _
  have R0 : Hid (((w.alloc (.cells #[.slice pb lb cb, .slice pw lw cw, .slice pt lt ct, .slice ps ls cs, .int .i64 sky, .int .i64 st] 33)).alloc (.cells #[.slice none 0 0, .slice none 0 0, .slice none 0 0, .slice none 0 0, .int .i64 0, .int .i64 0] 33)).heap[w.heap.size]? = some (.cells #[.slice pb lb cb, .slice pw lw cw, .slice pt lt ct, .slice ps ls cs, .int .i64 sky, .int .i64 st] 33)) := heap_alloc2_old _ _ _
  have Q0 : Hid (((w.alloc (.cells #[.slice pb lb cb, .slice pw lw cw, .slice pt lt ct, .slice ps ls cs, .int .i64 sky, .int .i64 st] 33)).alloc (.cells #[.slice none 0 0, .slice none 0 0, .slice none 0 0, .slice none 0 0, .int .i64 0, .int .i64 0] 33)).heap[w.heap.size + 1]? = some (.cells #[.slice none 0 0, .slice none 0 0, .slice none 0 0, .slice none 0 0, .int .i64 0, .int .i64 0] 33)) := heap_alloc2_new _ _ _
  go_enter Tryz.func20, Tryz.ntmps20
  go_upto_region 1 with fail
  generalize hW : World.alloc (World.alloc w _) _ = V0 at *
  obtain ⟨ga, hga⟩ : ∃ g, w.heap.size = g := ⟨_, rfl⟩
  obtain ⟨gr, hgr⟩ : ∃ g, w.heap.size + 1 = g := ⟨_, rfl⟩
  have HG : Hid (w.heap.size ≤ gr) := by show _ ≤ _; omega
  rw [hgr] at Q0 ⊢
  rw [hga] at R0 ⊢
  clear hga hgr hW
  have x0 := cell_of_row _ _ 0 _ _ _ R0.out
  have x1 := cell_of_row _ _ 1 _ _ _ R0.out
  have x2 := cell_of_row _ _ 2 _ _ _ R0.out
  have x3 := cell_of_row _ _ 3 _ _ _ R0.out
  have x4 := cell_of_row _ _ 4 _ _ _ R0.out
  have x5 := cell_of_row _ _ 5 _ _ _ R0.out
  go_wp2_with fail
  refine (CK.out _ A0.out).mono ?_
  rintro e9 v1 ⟨rfl, b1⟩
  have B1 : Hid (Ab V0 v1) := b1
  have A1 : Hid (Ab w v1) := A0.out.trans b1
  have R1 := hid (Ab.heap b1 R0.out)
  have Q1 := hid (Ab.heap b1 Q0.out)
  clear b1 x0 x1 x2 x3 x4 x5
  have t0 := cell_of_row _ _ 0 _ _ _ Q1.out
  have t1 := cell_of_row _ _ 1 _ _ _ Q1.out
  have t2 := cell_of_row _ _ 2 _ _ _ Q1.out
  have t3 := cell_of_row _ _ 3 _ _ _ Q1.out
  have t4 := cell_of_row _ _ 4 _ _ _ Q1.out
  have t5 := cell_of_row _ _ 5 _ _ _ Q1.out
  have f0 := free_row Q1.out 0
  have f1 := free_row Q1.out 1
  have f2 := free_row Q1.out 2
  have f3 := free_row Q1.out 3
  have f4 := free_row Q1.out 4
  have f5 := free_row Q1.out 5
  go_wp2_with fail
  refine bodyPost_ret (v := .tuple #[.agg #[.slice none 0 0, .slice none 0 0, .slice none 0 0, .slice none 0 0, .int .i64 0, .int .i64 0], .int .i64 ce]) ?_ rfl ?_
  · exact res_two Tryz.results20 _ _ gr _ _ (0, 0) _ _ rfl rfl (row6 Q1.out) Tryz.underlying33 rfl (by kernel_rfl)
  · exact ⟨rfl, (((((A1.out.setk HG.out _).setk HG.out _).setk HG.out _).setk HG.out _).setk HG.out _).setk HG.out _⟩
set_option maxRecDepth 100000 in
set_option maxHeartbeats 64000000 in
theorem rturned_arg (side : Int) (pb : Option Addr) (lb cb : Nat) (pw : Option Addr) (lw cw : Nat) (pt : Option Addr) (lt ct : Nat) (ps : Option Addr) (ls cs : Nat) (sky st : Int) (turn ca : Int) (w : World) (ht : ¬ (0 ≤ turn ∧ turn ≤ 23))
    (CK : Hid (∀ v, Ab w v → Calls Tryz.prog 14 #[.int .i64 side, .agg #[.slice pb lb cb, .slice pw lw cw, .slice pt lt ct, .slice ps ls cs, .int .i64 sky, .int .i64 st]] v fun e w' => e = .returned (.tuple #[.int .i64 ca, .int .i64 0]) ∧ Below v.heap.size v w')) :
    Calls Tryz.prog 20 #[.int .i64 side, .agg #[.slice pb lb cb, .slice pw lw cw, .slice pt lt ct, .slice ps ls cs, .int .i64 sky, .int .i64 st], .int .i64 turn] w fun e w' => e = .returned (.tuple #[.agg #[.slice none 0 0, .slice none 0 0, .slice none 0 0, .slice none 0 0, .int .i64 0, .int .i64 0], .int .i64 1]) ∧ Below w.heap.size w w' := by
  by_cases h : turn < 0
  · have d1 : decide (turn < 0) = true := decide_eq_true h
    clear ht h
    have A0 : Hid (Ab w ((w.alloc (.cells #[.slice pb lb cb, .slice pw lw cw, .slice pt lt ct, .slice ps ls cs, .int .i64 sky, .int .i64 st] 33)).alloc (.cells #[.slice none 0 0, .slice none 0 0, .slice none 0 0, .slice none 0 0, .int .i64 0, .int .i64 0] 33))) := bl2 _ _ _
    have R0 : Hid (((w.alloc (.cells #[.slice pb lb cb, .slice pw lw cw, .slice pt lt ct, .slice ps ls cs, .int .i64 sky, .int .i64 st] 33)).alloc (.cells #[.slice none 0 0, .slice none 0 0, .slice none 0 0, .slice none 0 0, .int .i64 0, .int .i64 0] 33)).heap[w.heap.size]? = some (.cells #[.slice pb lb cb, .slice pw lw cw, .slice pt lt ct, .slice ps ls cs, .int .i64 sky, .int .i64 st] 33)) := heap_alloc2_old _ _ _
    have Q0 : Hid (((w.alloc (.cells #[.slice pb lb cb, .slice pw lw cw, .slice pt lt ct, .slice ps ls cs, .int .i64 sky, .int .i64 st] 33)).alloc (.cells #[.slice none 0 0, .slice none 0 0, .slice none 0 0, .slice none 0 0, .int .i64 0, .int .i64 0] 33)).heap[w.heap.size + 1]? = some (.cells #[.slice none 0 0, .slice none 0 0, .slice none 0 0, .slice none 0 0, .int .i64 0, .int .i64 0] 33)) := heap_alloc2_new _ _ _
    go_enter Tryz.func20, Tryz.ntmps20
    go_upto_region 1 with fail
    generalize hW : World.alloc (World.alloc w _) _ = V0 at *
    obtain ⟨ga, hga⟩ : ∃ g, w.heap.size = g := ⟨_, rfl⟩
    obtain ⟨gr, hgr⟩ : ∃ g, w.heap.size + 1 = g := ⟨_, rfl⟩
    have HG : Hid (w.heap.size ≤ gr) := by show _ ≤ _; omega
    rw [hgr] at Q0 ⊢
    rw [hga] at R0 ⊢
    clear hga hgr hW
    have x0 := cell_of_row _ _ 0 _ _ _ R0.out
    have x1 := cell_of_row _ _ 1 _ _ _ R0.out
    have x2 := cell_of_row _ _ 2 _ _ _ R0.out
    have x3 := cell_of_row _ _ 3 _ _ _ R0.out
    have x4 := cell_of_row _ _ 4 _ _ _ R0.out
    have x5 := cell_of_row _ _ 5 _ _ _ R0.out
    go_wp2_with fail
    refine (CK.out _ A0.out).mono ?_
    rintro e9 v1 ⟨rfl, b1⟩
    have B1 : Hid (Ab V0 v1) := b1
    have A1 : Hid (Ab w v1) := A0.out.trans b1
    have R1 := hid (Ab.heap b1 R0.out)
    have Q1 := hid (Ab.heap b1 Q0.out)
    clear b1 x0 x1 x2 x3 x4 x5
    have t0 := cell_of_row _ _ 0 _ _ _ Q1.out
    have t1 := cell_of_row _ _ 1 _ _ _ Q1.out
    have t2 := cell_of_row _ _ 2 _ _ _ Q1.out
    have t3 := cell_of_row _ _ 3 _ _ _ Q1.out
    have t4 := cell_of_row _ _ 4 _ _ _ Q1.out
    have t5 := cell_of_row _ _ 5 _ _ _ Q1.out
    have f0 := free_row Q1.out 0
    have f1 := free_row Q1.out 1
    have f2 := free_row Q1.out 2
    have f3 := free_row Q1.out 3
    have f4 := free_row Q1.out 4
    have f5 := free_row Q1.out 5
    go_wp2_with fail
    refine bodyPost_ret (v := .tuple #[.agg #[.slice none 0 0, .slice none 0 0, .slice none 0 0, .slice none 0 0, .int .i64 0, .int .i64 0], .int .i64 1]) ?_ rfl ?_
    · exact res_two Tryz.results20 _ _ gr _ _ (0, 0) _ _ rfl rfl (row6 Q1.out) Tryz.underlying33 rfl (by kernel_rfl)
    · exact ⟨rfl, (((((A1.out.setk HG.out _).setk HG.out _).setk HG.out _).setk HG.out _).setk HG.out _).setk HG.out _⟩
  · have d1 : decide (turn < 0) = false := decide_eq_false h
    have d2 : decide (23 < turn) = true := decide_eq_true (by omega)
    clear ht h
    have A0 : Hid (Ab w ((w.alloc (.cells #[.slice pb lb cb, .slice pw lw cw, .slice pt lt ct, .slice ps ls cs, .int .i64 sky, .int .i64 st] 33)).alloc (.cells #[.slice none 0 0, .slice none 0 0, .slice none 0 0, .slice none 0 0, .int .i64 0, .int .i64 0] 33))) := bl2 _ _ _
    have R0 : Hid (((w.alloc (.cells #[.slice pb lb cb, .slice pw lw cw, .slice pt lt ct, .slice ps ls cs, .int .i64 sky, .int .i64 st] 33)).alloc (.cells #[.slice none 0 0, .slice none 0 0, .slice none 0 0, .slice none 0 0, .int .i64 0, .int .i64 0] 33)).heap[w.heap.size]? = some (.cells #[.slice pb lb cb, .slice pw lw cw, .slice pt lt ct, .slice ps ls cs, .int .i64 sky, .int .i64 st] 33)) := heap_alloc2_old _ _ _
    have Q0 : Hid (((w.alloc (.cells #[.slice pb lb cb, .slice pw lw cw, .slice pt lt ct, .slice ps ls cs, .int .i64 sky, .int .i64 st] 33)).alloc (.cells #[.slice none 0 0, .slice none 0 0, .slice none 0 0, .slice none 0 0, .int .i64 0, .int .i64 0] 33)).heap[w.heap.size + 1]? = some (.cells #[.slice none 0 0, .slice none 0 0, .slice none 0 0, .slice none 0 0, .int .i64 0, .int .i64 0] 33)) := heap_alloc2_new _ _ _
    go_enter Tryz.func20, Tryz.ntmps20
    go_upto_region 1 with fail
    generalize hW : World.alloc (World.alloc w _) _ = V0 at *
    obtain ⟨ga, hga⟩ : ∃ g, w.heap.size = g := ⟨_, rfl⟩
    obtain ⟨gr, hgr⟩ : ∃ g, w.heap.size + 1 = g := ⟨_, rfl⟩
    have HG : Hid (w.heap.size ≤ gr) := by show _ ≤ _; omega
    rw [hgr] at Q0 ⊢
    rw [hga] at R0 ⊢
    clear hga hgr hW
    have x0 := cell_of_row _ _ 0 _ _ _ R0.out
    have x1 := cell_of_row _ _ 1 _ _ _ R0.out
    have x2 := cell_of_row _ _ 2 _ _ _ R0.out
    have x3 := cell_of_row _ _ 3 _ _ _ R0.out
    have x4 := cell_of_row _ _ 4 _ _ _ R0.out
    have x5 := cell_of_row _ _ 5 _ _ _ R0.out
    go_wp2_with fail
    refine (CK.out _ A0.out).mono ?_
    rintro e9 v1 ⟨rfl, b1⟩
    have B1 : Hid (Ab V0 v1) := b1
    have A1 : Hid (Ab w v1) := A0.out.trans b1
    have R1 := hid (Ab.heap b1 R0.out)
    have Q1 := hid (Ab.heap b1 Q0.out)
    clear b1 x0 x1 x2 x3 x4 x5
    have t0 := cell_of_row _ _ 0 _ _ _ Q1.out
    have t1 := cell_of_row _ _ 1 _ _ _ Q1.out
    have t2 := cell_of_row _ _ 2 _ _ _ Q1.out
    have t3 := cell_of_row _ _ 3 _ _ _ Q1.out
    have t4 := cell_of_row _ _ 4 _ _ _ Q1.out
    have t5 := cell_of_row _ _ 5 _ _ _ Q1.out
    have f0 := free_row Q1.out 0
    have f1 := free_row Q1.out 1
    have f2 := free_row Q1.out 2
    have f3 := free_row Q1.out 3
    have f4 := free_row Q1.out 4
    have f5 := free_row Q1.out 5
    go_wp2_with fail
    refine bodyPost_ret (v := .tuple #[.agg #[.slice none 0 0, .slice none 0 0, .slice none 0 0, .slice none 0 0, .int .i64 0, .int .i64 0], .int .i64 1]) ?_ rfl ?_
    · exact res_two Tryz.results20 _ _ gr _ _ (0, 0) _ _ rfl rfl (row6 Q1.out) Tryz.underlying33 rfl (by kernel_rfl)
    · exact ⟨rfl, (((((A1.out.setk HG.out _).setk HG.out _).setk HG.out _).setk HG.out _).setk HG.out _).setk HG.out _⟩
set_option maxRecDepth 100000 in
set_option maxHeartbeats 128000000 in
theorem rturned_go (n N M : Nat) (qb ob cb qw ow cw qt ot ct qs os cs : Nat) (B : Nat → Nat) (W T : Nat → Int) (S : Nat → Nat) (sky st : Int) (r : Nat) (ca : Int) (tc tq lc sd rc bk at_ : Nat → Nat) (sg : Nat → Int) (B' : Nat → Nat) (W' T' : Nat → Int) (S' : Nat → Nat) (w : World) (hN : N ≤ 6144) (hM : M ≤ 12288) (hr : (r : Int) ≤ 23)
    (CK : Hid (∀ v, Ab w v → Calls Tryz.prog 14 #[.int .i64 (n : Nat), .agg #[.slice (some ⟨qb, ob, none⟩) N cb, .slice (some ⟨qw, ow, none⟩) N cw, .slice (some ⟨qt, ot, none⟩) N ct, .slice (some ⟨qs, os, none⟩) M cs, .int .i64 sky, .int .i64 st]] v fun e w' => e = .returned (.tuple #[.int .i64 ca, .int .i64 0]) ∧ Below v.heap.size v w'))
    (NW : Hid (∀ v, Ab w v → Calls Tryz.prog 53 #[.int .i64 (n : Nat)] v fun e w' => ∃ rb, e = .returned (.tuple #[.pointer (some ⟨rb, 0, none⟩), .int .i64 0]) ∧ Below v.heap.size v w' ∧ RefOf n rb w'))
    (TN : Hid (∀ v (c : Nat), c < N → Calls Tryz.prog 54 #[.int .i64 (n : Nat), .int .i64 (r : Nat), .int .i64 (c : Nat)] v fun e w' => e = .returned (.tuple #[.int .i64 (tc c : Nat), .int .i64 (tq c : Nat)]) ∧ Below v.heap.size v w'))
    (ED : Hid (∀ v rb (i : Nat), RefOf n rb v → i < M → Calls Tryz.prog 55 #[.pointer (some ⟨rb, 0, none⟩), .int .i64 (i : Nat)] v fun e w' => e = .returned (.tuple #[.agg #[.int .i64 (lc i : Nat), .int .i64 (sd i : Nat), .int .i64 (rc i : Nat), .int .i64 (bk i : Nat)], .bool true]) ∧ Below v.heap.size v w'))
    (AR : Hid (∀ v rb (i : Nat), RefOf n rb v → i < M → Calls Tryz.prog 56 #[.pointer (some ⟨rb, 0, none⟩), .int .i64 (tc (lc i) : Nat), .int .i64 ((sd i + tq (lc i)) % 4 : Nat)] v fun e w' => e = .returned (.tuple #[.int .i64 (at_ i : Nat), .int .i64 (sg i)]) ∧ Below v.heap.size v w'))
    (TL : Hid (∀ c, c < N → tc c < N ∧ tq c < 4)) (TI : Hid (∀ c d, c < N → d < N → tc c = tc d → c = d))
    (EL : Hid (∀ i, i < M → lc i < N ∧ sd i < 4 ∧ at_ i < M)) (EI : Hid (∀ i j, i < M → j < M → at_ i = at_ j → i = j))
    (TB : Hid (∀ i, i < N → ∃ c, c < N ∧ tc c = i ∧ B' i = B c ∧ W' i = W c ∧ T' i = T c))
    (TS : Hid (∀ e, e < M → ∃ i, i < M ∧ at_ i = e ∧ S' e = if sg i < 0 then ngC (S i) else S i))
    (IB : Hid (IsFl w (some ⟨qb, ob, none⟩) N B)) (IW : Hid (Sh.IsI w (some ⟨qw, ow, none⟩) N W)) (IT : Hid (Sh.IsI w (some ⟨qt, ot, none⟩) N T)) (IS : Hid (IsFl w (some ⟨qs, os, none⟩) M S)) :
    Calls Tryz.prog 20 #[.int .i64 (n : Nat), .agg #[.slice (some ⟨qb, ob, none⟩) N cb, .slice (some ⟨qw, ow, none⟩) N cw, .slice (some ⟨qt, ot, none⟩) N ct, .slice (some ⟨qs, os, none⟩) M cs, .int .i64 sky, .int .i64 st], .int .i64 (r : Nat)] w fun e w' => ∃ v, e = .returned (.tuple #[v, .int .i64 0]) ∧ Below w.heap.size w w' ∧ OwnS w.heap.size v N N N M B' W' T' S' sky st w' := by
  have d1 : decide ((r : Int) < 0) = false := decide_eq_false (by omega)
  have d2 : decide (23 < (r : Int)) = false := decide_eq_false (by omega)
  have d3 : decide (23 < r) = false := decide_eq_false (by omega)
  have M1 : ∀ v : World, (Instr.makeSlice 30 (.int .i64 (N : Nat)) (.int .i64 (N : Nat))).run Tryz.prog v = .ok (.slice (some ⟨v.heap.size, 0, none⟩) N N) (v.alloc (Obj.cells (madeCells #[.float .f64 0] N) 22)) := fun v => run_make_row' (P := Tryz.prog) 30 22 (.float .f64 0) 8 Tryz.underlying30 info_f20 rfl .i64 .i64 N (by omega) (by omega) v
  have M2 : ∀ v : World, (Instr.makeSlice 31 (.int .i64 (N : Nat)) (.int .i64 (N : Nat))).run Tryz.prog v = .ok (.slice (some ⟨v.heap.size, 0, none⟩) N N) (v.alloc (Obj.cells (madeCells #[.int .i64 0] N) 2)) := fun v => run_make_row' (P := Tryz.prog) 31 2 (.int .i64 0) 8 Tryz.underlying31 info64 rfl .i64 .i64 N (by omega) (by omega) v
  have M4 : ∀ v : World, (Instr.makeSlice 30 (.int .i64 (M : Nat)) (.int .i64 (M : Nat))).run Tryz.prog v = .ok (.slice (some ⟨v.heap.size, 0, none⟩) M M) (v.alloc (Obj.cells (madeCells #[.float .f64 0] M) 22)) := fun v => run_make_row' (P := Tryz.prog) 30 22 (.float .f64 0) 8 Tryz.underlying30 info_f20 rfl .i64 .i64 M (by omega) (by omega) v
  have AL : ∀ v : World, (Instr.alloc 33 true (.tuple #[])).run Tryz.prog v = .ok (.pointer (some ⟨v.heap.size, 0, none⟩)) (v.alloc (.cells #[.slice none 0 0, .slice none 0 0, .slice none 0 0, .slice none 0 0, .int .i64 0, .int .i64 0] 33)) := fun v => by
    simp [go_sem]
  have HN := hid (And.intro hN hM)
  clear hN hM hr
  have A0 : Hid (Ab w ((w.alloc (.cells #[.slice (some ⟨qb, ob, none⟩) N cb, .slice (some ⟨qw, ow, none⟩) N cw, .slice (some ⟨qt, ot, none⟩) N ct, .slice (some ⟨qs, os, none⟩) M cs, .int .i64 sky, .int .i64 st] 33)).alloc (.cells #[.slice none 0 0, .slice none 0 0, .slice none 0 0, .slice none 0 0, .int .i64 0, .int .i64 0] 33))) := bl2 _ _ _
  have R0 : Hid (((w.alloc (.cells #[.slice (some ⟨qb, ob, none⟩) N cb, .slice (some ⟨qw, ow, none⟩) N cw, .slice (some ⟨qt, ot, none⟩) N ct, .slice (some ⟨qs, os, none⟩) M cs, .int .i64 sky, .int .i64 st] 33)).alloc (.cells #[.slice none 0 0, .slice none 0 0, .slice none 0 0, .slice none 0 0, .int .i64 0, .int .i64 0] 33)).heap[w.heap.size]? = some (.cells #[.slice (some ⟨qb, ob, none⟩) N cb, .slice (some ⟨qw, ow, none⟩) N cw, .slice (some ⟨qt, ot, none⟩) N ct, .slice (some ⟨qs, os, none⟩) M cs, .int .i64 sky, .int .i64 st] 33)) := heap_alloc2_old _ _ _
  have Q0 : Hid (((w.alloc (.cells #[.slice (some ⟨qb, ob, none⟩) N cb, .slice (some ⟨qw, ow, none⟩) N cw, .slice (some ⟨qt, ot, none⟩) N ct, .slice (some ⟨qs, os, none⟩) M cs, .int .i64 sky, .int .i64 st] 33)).alloc (.cells #[.slice none 0 0, .slice none 0 0, .slice none 0 0, .slice none 0 0, .int .i64 0, .int .i64 0] 33)).heap[w.heap.size + 1]? = some (.cells #[.slice none 0 0, .slice none 0 0, .slice none 0 0, .slice none 0 0, .int .i64 0, .int .i64 0] 33)) := heap_alloc2_new _ _ _
  go_enter Tryz.func20, Tryz.ntmps20
  go_upto_region 1 with fail
  generalize hW : World.alloc (World.alloc w _) _ = V0 at *
  obtain ⟨ga, hga⟩ : ∃ g, w.heap.size = g := ⟨_, rfl⟩
  obtain ⟨gr, hgr⟩ : ∃ g, w.heap.size + 1 = g := ⟨_, rfl⟩
  have HG : Hid (w.heap.size ≤ gr) := by show _ ≤ _; omega
  rw [hgr] at Q0 ⊢
  rw [hga] at R0 ⊢
  clear hga hgr hW
  have x0 := cell_of_row _ _ 0 _ _ _ R0.out
  have x1 := cell_of_row _ _ 1 _ _ _ R0.out
  have x2 := cell_of_row _ _ 2 _ _ _ R0.out
  have x3 := cell_of_row _ _ 3 _ _ _ R0.out
  have x4 := cell_of_row _ _ 4 _ _ _ R0.out
  have x5 := cell_of_row _ _ 5 _ _ _ R0.out
  go_wp2_with fail
  refine (CK.out _ A0.out).mono ?_
  rintro e9 v1 ⟨rfl, b1⟩
  have B1 : Hid (Ab V0 v1) := b1
  have A1 : Hid (Ab w v1) := A0.out.trans b1
  have R1 := hid (Ab.heap b1 R0.out)
  have Q1 := hid (Ab.heap b1 Q0.out)
  clear b1 x0 x1 x2 x3 x4 x5
  go_wp2_with fail
  refine (NW.out _ A1.out).mono ?_
  rintro e9 v2 ⟨rb, rfl, b2, g2⟩
  have B2 : Hid (Ab V0 v2) := B1.out.trans b2
  have A2 : Hid (Ab w v2) := A1.out.trans b2
  have R2 := hid (Ab.heap b2 R1.out)
  have Q2 := hid (Ab.heap b2 Q1.out)
  have G2 := hid g2
  clear b2 g2 R1 Q1 A1 B1 CK NW
  have x0 := cell_of_row _ _ 0 _ _ _ R2.out
  have x1 := cell_of_row _ _ 1 _ _ _ R2.out
  have x2 := cell_of_row _ _ 2 _ _ _ R2.out
  have x3 := cell_of_row _ _ 3 _ _ _ R2.out
  have x4 := cell_of_row _ _ 4 _ _ _ R2.out
  have x5 := cell_of_row _ _ 5 _ _ _ R2.out
  go_upto_region 8 with fail
  clear x0 x1 x2 x3 x4 x5
  go_cut [13] from 49 to 63 (fun s13 wx => ∃ g5 b1 b2 b3 b4, s13 = .pointer (some ⟨g5, 0, none⟩) ∧ Ab v2 wx ∧ wx.heap[g5]? = some (.cells #[.slice (some ⟨b1, 0, none⟩) N N, .slice (some ⟨b2, 0, none⟩) N N, .slice (some ⟨b3, 0, none⟩) N N, .slice (some ⟨b4, 0, none⟩) M M, .int .i64 sky, .int .i64 st] 33) ∧ wx.heap[b1]? = some (Obj.cells (madeCells #[.float .f64 0] N) 22) ∧ wx.heap[b2]? = some (Obj.cells (madeCells #[.int .i64 0] N) 2) ∧ wx.heap[b3]? = some (Obj.cells (madeCells #[.int .i64 0] N) 2) ∧ wx.heap[b4]? = some (Obj.cells (madeCells #[.float .f64 0] M) 22) ∧ (v2.heap.size ≤ b1 ∧ v2.heap.size ≤ b2 ∧ v2.heap.size ≤ b3 ∧ v2.heap.size ≤ b4 ∧ v2.heap.size ≤ g5) ∧ (b1 ≠ b2 ∧ b1 ≠ b3 ∧ b1 ≠ b4 ∧ b2 ≠ b3 ∧ b2 ≠ b4 ∧ b3 ≠ b4) ∧ (b1 ≠ g5 ∧ b2 ≠ g5 ∧ b3 ≠ g5 ∧ b4 ≠ g5))
  case first =>
    obtain ⟨UU, E, hF1, hF2⟩ := cls v2.drew
    have HU := hid hF2
    have HU1 := hid hF1
    have e3 : ∀ u, (E u).cell? ⟨ga, 3, none⟩ = some (.slice (some ⟨qs, os, none⟩) M cs) := fun u => cell_of_row _ _ 3 _ _ _ ((hF1 u).heap R2.out)
    have e4 : ∀ u, (E u).cell? ⟨ga, 4, none⟩ = some (.int .i64 sky) := fun u => cell_of_row _ _ 4 _ _ _ ((hF1 u).heap R2.out)
    have e5 : ∀ u, (E u).cell? ⟨ga, 5, none⟩ = some (.int .i64 st) := fun u => cell_of_row _ _ 5 _ _ _ ((hF1 u).heap R2.out)
    clear hF1 hF2
    refine Cf.region_free 16 (fun k => if k = 1 then some ((Obj.cells (madeCells #[.float .f64 0] N) 22), fun b => .slice (some ⟨b, 0, none⟩) N N) else if k = 3 then some ((Obj.cells (madeCells #[.int .i64 0] N) 2), fun b => .slice (some ⟨b, 0, none⟩) N N) else if k = 5 then some ((Obj.cells (madeCells #[.int .i64 0] N) 2), fun b => .slice (some ⟨b, 0, none⟩) N N) else if k = 9 then some ((Obj.cells (madeCells #[.float .f64 0] M) 22), fun b => .slice (some ⟨b, 0, none⟩) M M) else if k = 15 then some ((.cells #[.slice none 0 0, .slice none 0 0, .slice none 0 0, .slice none 0 0, .int .i64 0, .int .i64 0] 33), fun b => .pointer (some ⟨b, 0, none⟩)) else none) (by kernel_rfl) (by kernel_rfl) (by kernel_rfl) ?_
    simp only [List.take_succ_cons, List.take_zero]
    refine Cf.wpFree_one HU (by rfl) (by rfl) ?_
    go_big_quiet_step (with_reducible rfl)
    refine wpQuiet_nil ?_
    refine Cf.wpFree_lay (ob := (Obj.cells (madeCells #[.float .f64 0] N) 22)) (mk := fun b => .slice (some ⟨b, 0, none⟩) N N) (by rfl) (by kernel_rfl) ?_ ?_
    · refine Cf.lay_run (lay_make (vx := .int .i64 (N : Nat)) (vy := .int .i64 (N : Nat)) (ob := (Obj.cells (madeCells #[.float .f64 0] N) 22)) (mk := fun b => .slice (some ⟨b, 0, none⟩) N N) rfl ?_ ?_ ?_)
      · rfl
      · rfl
      · exact M1
    intro b1 fb1
    simp only [Act.put, List.setIfInBounds_toArray, List.set_cons_succ, List.set_cons_zero]
    refine Cf.wpFree_one HU (by rfl) (by rfl) ?_
    go_big_quiet_step (with_reducible rfl)
    refine wpQuiet_nil ?_
    refine Cf.wpFree_lay (ob := (Obj.cells (madeCells #[.int .i64 0] N) 2)) (mk := fun b => .slice (some ⟨b, 0, none⟩) N N) (by rfl) (by kernel_rfl) ?_ ?_
    · refine Cf.lay_run (lay_make (vx := .int .i64 (N : Nat)) (vy := .int .i64 (N : Nat)) (ob := (Obj.cells (madeCells #[.int .i64 0] N) 2)) (mk := fun b => .slice (some ⟨b, 0, none⟩) N N) rfl ?_ ?_ ?_)
      · rfl
      · rfl
      · exact M2
    intro b2 fb2
    simp only [Act.put, List.setIfInBounds_toArray, List.set_cons_succ, List.set_cons_zero]
    refine Cf.wpFree_one HU (by rfl) (by rfl) ?_
    go_big_quiet_step (with_reducible rfl)
    refine wpQuiet_nil ?_
    refine Cf.wpFree_lay (ob := (Obj.cells (madeCells #[.int .i64 0] N) 2)) (mk := fun b => .slice (some ⟨b, 0, none⟩) N N) (by rfl) (by kernel_rfl) ?_ ?_
    · refine Cf.lay_run (lay_make (vx := .int .i64 (N : Nat)) (vy := .int .i64 (N : Nat)) (ob := (Obj.cells (madeCells #[.int .i64 0] N) 2)) (mk := fun b => .slice (some ⟨b, 0, none⟩) N N) rfl ?_ ?_ ?_)
      · rfl
      · rfl
      · exact M2
    intro b3 fb3
    simp only [Act.put, List.setIfInBounds_toArray, List.set_cons_succ, List.set_cons_zero]
    refine Cf.wpFree_one HU (by rfl) (by rfl) ?_
    go_big_quiet_step (with_reducible rfl)
    refine wpQuiet_nil ?_
    refine Cf.wpFree_one HU (by rfl) (by rfl) ?_
    go_big_quiet_step (with_reducible rfl)
    refine wpQuiet_nil ?_
    refine wpFree_val (.int .i64 (M : Nat)) (by rfl) (by kernel_rfl) (fun v => len_run (x := .tmp 56) rfl Tryz.underlying30 rfl v) ?_
    simp only [Act.put, List.setIfInBounds_toArray, List.set_cons_succ, List.set_cons_zero]
    refine Cf.wpFree_lay (ob := (Obj.cells (madeCells #[.float .f64 0] M) 22)) (mk := fun b => .slice (some ⟨b, 0, none⟩) M M) (by rfl) (by kernel_rfl) ?_ ?_
    · refine Cf.lay_run (lay_make (vx := .int .i64 (M : Nat)) (vy := .int .i64 (M : Nat)) (ob := (Obj.cells (madeCells #[.float .f64 0] M) 22)) (mk := fun b => .slice (some ⟨b, 0, none⟩) M M) rfl ?_ ?_ ?_)
      · rfl
      · rfl
      · exact M4
    intro b4 fb4
    simp only [Act.put, List.setIfInBounds_toArray, List.set_cons_succ, List.set_cons_zero]
    refine Cf.wpFree_one HU (by rfl) (by rfl) ?_
    go_big_quiet_step (with_reducible rfl)
    refine wpQuiet_nil ?_
    refine Cf.wpFree_one HU (by rfl) (by rfl) ?_
    go_big_quiet_step (with_reducible rfl)
    refine wpQuiet_nil ?_
    refine Cf.wpFree_one HU (by rfl) (by rfl) ?_
    go_big_quiet_step (with_reducible rfl)
    refine wpQuiet_nil ?_
    refine Cf.wpFree_one HU (by rfl) (by rfl) ?_
    go_big_quiet_step (with_reducible rfl)
    refine wpQuiet_nil ?_
    refine Cf.wpFree_one HU (by rfl) (by rfl) ?_
    go_big_quiet_step (with_reducible rfl)
    refine wpQuiet_nil ?_
    refine Cf.wpFree_lay (ob := (.cells #[.slice none 0 0, .slice none 0 0, .slice none 0 0, .slice none 0 0, .int .i64 0, .int .i64 0] 33)) (mk := fun b => .pointer (some ⟨b, 0, none⟩)) (by rfl) (by kernel_rfl) ?_ ?_
    · refine Cf.lay_run (lay_alloc (ob := (.cells #[.slice none 0 0, .slice none 0 0, .slice none 0 0, .slice none 0 0, .int .i64 0, .int .i64 0] 33)) (mk := fun b => .pointer (some ⟨b, 0, none⟩)) rfl ?_)
      exact AL
    intro g5 fg5
    simp only [Act.put, List.setIfInBounds_toArray, List.set_cons_succ, List.set_cons_zero]
    refine Cf.wpFree_nil ?_
    intro wz hz
    have h1 := hz.at (i := 1) (b := b1) (ob := (Obj.cells (madeCells #[.float .f64 0] N) 22)) (by rfl) (by rfl)
    have h2 := hz.at (i := 3) (b := b2) (ob := (Obj.cells (madeCells #[.int .i64 0] N) 2)) (by rfl) (by rfl)
    have h3 := hz.at (i := 5) (b := b3) (ob := (Obj.cells (madeCells #[.int .i64 0] N) 2)) (by rfl) (by rfl)
    have h4 := hz.at (i := 9) (b := b4) (ob := (Obj.cells (madeCells #[.float .f64 0] M) 22)) (by rfl) (by rfl)
    have h5 := hz.at (i := 15) (b := g5) (ob := (.cells #[.slice none 0 0, .slice none 0 0, .slice none 0 0, .slice none 0 0, .int .i64 0, .int .i64 0] 33)) (by rfl) (by rfl)
    have n12 : b1 ≠ b2 := fb2.2 1 b1 (by rfl)
    have n13 : b1 ≠ b3 := fb3.2 1 b1 (by rfl)
    have n14 : b1 ≠ b4 := fb4.2 1 b1 (by rfl)
    have n15 : b1 ≠ g5 := fg5.2 1 b1 (by rfl)
    have n23 : b2 ≠ b3 := fb3.2 3 b2 (by rfl)
    have n24 : b2 ≠ b4 := fb4.2 3 b2 (by rfl)
    have n25 : b2 ≠ g5 := fg5.2 3 b2 (by rfl)
    have n34 : b3 ≠ b4 := fb4.2 5 b3 (by rfl)
    have n35 : b3 ≠ g5 := fg5.2 5 b3 (by rfl)
    have n45 : b4 ≠ g5 := fg5.2 9 b4 (by rfl)
    have AZ : Ab v2 wz := (Ab.refl v2).drew.trans hz.1
    have RZ := hid h5.1
    have HH := hid (And.intro h1 (And.intro h2 (And.intro h3 (And.intro h4 h5))))
    have NN := hid (And.intro (And.intro n12 (And.intro n13 (And.intro n14 (And.intro n23 (And.intro n24 n34))))) (And.intro n15 (And.intro n25 (And.intro n35 n45))))
    have HAZ := hid AZ
    clear hz fb1 fb2 fb3 fb4 fg5 h1 h2 h3 h4 h5 n12 n13 n14 n15 n23 n24 n25 n34 n35 n45 AZ HU HU1 e3 e4 e5
    clear E UU
    have t0 := cell_of_row _ _ 0 _ _ _ RZ.out
    have t1 := cell_of_row _ _ 1 _ _ _ RZ.out
    have t2 := cell_of_row _ _ 2 _ _ _ RZ.out
    have t3 := cell_of_row _ _ 3 _ _ _ RZ.out
    have t4 := cell_of_row _ _ 4 _ _ _ RZ.out
    have t5 := cell_of_row _ _ 5 _ _ _ RZ.out
    have f0 := free_row RZ.out 0
    have f1 := free_row RZ.out 1
    have f2 := free_row RZ.out 2
    have f3 := free_row RZ.out 3
    have f4 := free_row RZ.out 4
    have f5 := free_row RZ.out 5
    simp only [List.drop_succ_cons, List.drop_zero]
    go_wp2_with fail
    go_meet
    obtain ⟨⟨k1, l1⟩, ⟨k2, l2⟩, ⟨k3, l3⟩, ⟨k4, l4⟩, ⟨k5, l5⟩⟩ := HH.out
    have st_ : ∀ (b : Nat) (o : Obj), b ≠ g5 → wz.heap[b]? = some o → ∀ x0 x1 x2 x3 x4 x5, ((((((wz.setCell ⟨g5, 0, none⟩ x0).setCell ⟨g5, 1, none⟩ x1).setCell ⟨g5, 2, none⟩ x2).setCell ⟨g5, 3, none⟩ x3).setCell ⟨g5, 4, none⟩ x4).setCell ⟨g5, 5, none⟩ x5).heap[b]? = some o := fun b o hb h x0 x1 x2 x3 x4 x5 => by
      rw [heap_set_ne hb, heap_set_ne hb, heap_set_ne hb, heap_set_ne hb, heap_set_ne hb, heap_set_ne hb]
      exact h
    refine ⟨g5, b1, b2, b3, b4, rfl, ?_, row6 k5, st_ b1 _ NN.out.2.1 k1 _ _ _ _ _ _, st_ b2 _ NN.out.2.2.1 k2 _ _ _ _ _ _, st_ b3 _ NN.out.2.2.2.1 k3 _ _ _ _ _ _, st_ b4 _ NN.out.2.2.2.2 k4 _ _ _ _ _ _, ⟨l1, l2, l3, l4, l5⟩, NN.out.1, NN.out.2⟩
    exact (((((HAZ.out.setk l5 _).setk l5 _).setk l5 _).setk l5 _).setk l5 _).setk l5 _
  case rest =>
    obtain ⟨g5, b1, b2, b3, b4, rfl, a3, r5, m1, m2, m3, m4, hl, hne, hng⟩ := hcut
    rename World => v3
    have A3 : Hid (Ab v2 v3) := a3
    have R5 := hid r5
    have N1 : Hid (v3.rowIs b1 22 N (fun _ => .float .f64 0)) := made_row m1
    have N2 : Hid (v3.rowIs b2 2 N (fun _ => .int .i64 0)) := made_row m2
    have N3 : Hid (v3.rowIs b3 2 N (fun _ => .int .i64 0)) := made_row m3
    have N4 : Hid (v3.rowIs b4 22 M (fun _ => .float .f64 0)) := made_row m4
    have LL := hid hl
    have NN := hid hne
    have NG := hid hng
    clear a3 r5 m1 m2 m3 m4 hl hne hng M1 M2 M4 AL
    go_wp2
    go_loopw [14] (fun iv wr => ∃ (k : Nat) (F1 F2 F3 : Nat → Value), k ≤ N ∧ iv = .int .i64 (k : Nat) ∧ Ab v2 wr ∧ wr.heap[g5]? = some (.cells #[.slice (some ⟨b1, 0, none⟩) N N, .slice (some ⟨b2, 0, none⟩) N N, .slice (some ⟨b3, 0, none⟩) N N, .slice (some ⟨b4, 0, none⟩) M M, .int .i64 sky, .int .i64 st] 33) ∧ wr.rowIs b1 22 N F1 ∧ wr.rowIs b2 2 N F2 ∧ wr.rowIs b3 2 N F3 ∧ wr.rowIs b4 22 M (fun _ => .float .f64 0) ∧ (∀ c, c < k → F1 (tc c) = .float .f64 (B c) ∧ F2 (tc c) = .int .i64 (W c) ∧ F3 (tc c) = .int .i64 (T c))) (fun iv _ => N - (intOf iv).toNat)
    case atStart => exact ⟨0, _, _, _, by omega, rfl, A3.out, R5.out, N1.out, N2.out, N3.out, N4.out, fun c hc => absurd hc (Nat.not_lt_zero c)⟩
    case round =>
      obtain ⟨k, F1, F2, F3, hk, rfl, ar, h5, r1, r2, r3, r4, hq⟩ := hrel
      have AW := hid ar
      have H5 := hid h5
      have P1 := hid r1
      have P2 := hid r2
      have P3 := hid r3
      have P4 := hid r4
      have HQ := hid hq
      clear ar h5 r1 r2 r3 r4 hq N1 N2 N3 N4 R5 A3
      by_cases hkn : k < N
      · have HK := hid hkn
        have kI : (k : Int) < N := by omega
        have kB : (k : Int) ≤ 6144 := by have := HN.out.1; omega
        have CT := hid (TN.out wr k hkn)
        obtain ⟨c, hc⟩ : ∃ c, tc k = c := ⟨_, rfl⟩
        have cl := (TL.out k hkn).1
        rw [hc] at CT cl
        have CC := hid hc
        have CL := hid cl
        have cI : (c : Int) < N := by omega
        have cB : (c : Int) ≤ 6144 := by have := HN.out.1; omega
        obtain ⟨xb, hxb⟩ : ∃ x, B k = x := ⟨_, rfl⟩
        obtain ⟨xw, hxw⟩ : ∃ x, W k = x := ⟨_, rfl⟩
        obtain ⟨xt, hxt⟩ : ∃ x, T k = x := ⟨_, rfl⟩
        have XV := hid (And.intro hxb (And.intro hxw hxt))
        have YB : Hid (∀ v, Ab w v → v.cell? ⟨qb, ob + k, none⟩ = some (.float .f64 xb)) := fun v a => by rw [← hxb]; exact ((IB.out.below a).at0 hkn).2.2
        have YW : Hid (∀ v, Ab w v → v.cell? ⟨qw, ow + k, none⟩ = some (.int .i64 xw)) := fun v a => by rw [← hxw]; exact ((IW.out.below a).at0 hkn).2.2
        have YT : Hid (∀ v, Ab w v → v.cell? ⟨qt, ot + k, none⟩ = some (.int .i64 xt)) := fun v a => by rw [← hxt]; exact ((IT.out.below a).at0 hkn).2.2
        have OLD : Hid (∀ d, d < k → tc d ≠ c) := fun d hd e => by
          have := TI.out d k (by omega) hkn (by rw [e, hc])
          omega
        clear hc cl hxb hxw hxt hkn hk
        go_wp2_with fail
        refine CT.out.mono ?_
        rintro e9 v4 ⟨rfl, b4'⟩
        have A4 : Hid (Ab wr v4) := b4'
        clear b4' CT
        go_upto_region 13 with fail
        have K4 : Hid (Ab v2 v4) := AW.out.trans A4.out
        have H54 := hid (Ab.heap A4.out H5.out)
        have P14 := hid (rowIs.ab P1.out A4.out)
        have P24 := hid (rowIs.ab P2.out A4.out)
        have P34 := hid (rowIs.ab P3.out A4.out)
        have P44 := hid (rowIs.ab P4.out A4.out)
        clear A4 H5 P1 P2 P3 P4 AW
        obtain ⟨UU, E, hF1, hF2⟩ := cls v4
        have HU := hid hF2
        have HU1 := hid hF1
        have y0 : ∀ u, (E u).cell? ⟨g5, 0, none⟩ = some (.slice (some ⟨b1, 0, none⟩) N N) := fun u => cell_of_row _ _ 0 _ _ _ ((hF1 u).heap H54.out)
        have y1 : ∀ u, (E u).cell? ⟨ga, 0, none⟩ = some (.slice (some ⟨qb, ob, none⟩) N cb) := fun u => cell_of_row _ _ 0 _ _ _ ((K4.out.trans (hF1 u)).heap R2.out)
        have y2 : ∀ u, (E u).cell? ⟨qb, ob + k, none⟩ = some (.float .f64 xb) := fun u => YB.out _ (A2.out.trans (K4.out.trans (hF1 u)))
        have DD0 := HU.out _ (Ab.refl v4).drew
        clear hF1 hF2
        refine region_tail 9 E (by kernel_rfl) (by kernel_rfl) (by kernel_rfl) DD0 ?_
        simp only [List.take_succ_cons, List.take_zero, List.drop_succ_cons, List.drop_zero]
        repeat (go_big_quiet_step (with_reducible rfl))
        refine wpQuiet_nil ?_
        intro z hwz
        obtain ⟨u0, hu⟩ := hwz
        have AZ : Hid (Ab v4 z) := by rw [hu]; exact HU1.out u0
        clear hu u0
        clear HU HU1 DD0 y0 y1 y2
        clear E UU
        have z1 := (rowIs.ab P14.out AZ.out).cell CL.out
        have z2 := (rowIs.ab P14.out AZ.out).frozen c
        go_upto_region 14 with fail
        have P15 := hid ((rowIs.ab P14.out AZ.out).set c (.float .f64 xb))
        have P25 := hid ((rowIs.ab P24.out AZ.out).setOther (a := ⟨b1, c, none⟩) (Ne.symm NN.out.1) (.float .f64 xb))
        have P35 := hid ((rowIs.ab P34.out AZ.out).setOther (a := ⟨b1, c, none⟩) (Ne.symm NN.out.2.1) (.float .f64 xb))
        have P45 := hid ((rowIs.ab P44.out AZ.out).setOther (a := ⟨b1, c, none⟩) (Ne.symm NN.out.2.2.1) (.float .f64 xb))
        have H55 : Hid ((z.setCell ⟨b1, c, none⟩ (.float .f64 xb)).heap[g5]? = some (.cells #[.slice (some ⟨b1, 0, none⟩) N N, .slice (some ⟨b2, 0, none⟩) N N, .slice (some ⟨b3, 0, none⟩) N N, .slice (some ⟨b4, 0, none⟩) M M, .int .i64 sky, .int .i64 st] 33)) := (heap_set_ne (Ne.symm (NG.out.1))).trans (Ab.heap AZ.out H54.out)
        have K5 : Hid (Ab v2 (z.setCell ⟨b1, c, none⟩ (.float .f64 xb))) := (K4.out.trans AZ.out).setk LL.out.1 _
        clear z1 z2 AZ P14 P24 P34 P44 H54 K4
        generalize World.setCell z _ _ = v5 at *
        clear z
        obtain ⟨UU, E, hF1, hF2⟩ := cls v5
        have HU := hid hF2
        have HU1 := hid hF1
        have y0 : ∀ u, (E u).cell? ⟨g5, 1, none⟩ = some (.slice (some ⟨b2, 0, none⟩) N N) := fun u => cell_of_row _ _ 1 _ _ _ ((hF1 u).heap H55.out)
        have y1 : ∀ u, (E u).cell? ⟨ga, 1, none⟩ = some (.slice (some ⟨qw, ow, none⟩) N cw) := fun u => cell_of_row _ _ 1 _ _ _ ((K5.out.trans (hF1 u)).heap R2.out)
        have y2 : ∀ u, (E u).cell? ⟨qw, ow + k, none⟩ = some (.int .i64 xw) := fun u => YW.out _ (A2.out.trans (K5.out.trans (hF1 u)))
        have DD0 := HU.out _ (Ab.refl v5).drew
        clear hF1 hF2
        refine region_tail 9 E (by kernel_rfl) (by kernel_rfl) (by kernel_rfl) DD0 ?_
        simp only [List.take_succ_cons, List.take_zero, List.drop_succ_cons, List.drop_zero]
        repeat (go_big_quiet_step (with_reducible rfl))
        refine wpQuiet_nil ?_
        intro z hwz
        obtain ⟨u0, hu⟩ := hwz
        have AZ : Hid (Ab v5 z) := by rw [hu]; exact HU1.out u0
        clear hu u0
        clear HU HU1 DD0 y0 y1 y2
        clear E UU
        have z1 := (rowIs.ab P25.out AZ.out).cell CL.out
        have z2 := (rowIs.ab P25.out AZ.out).frozen c
        go_upto_region 15 with fail
        have P26 := hid ((rowIs.ab P25.out AZ.out).set c (.int .i64 xw))
        have P16 := hid ((rowIs.ab P15.out AZ.out).setOther (a := ⟨b2, c, none⟩) (NN.out.1) (.int .i64 xw))
        have P36 := hid ((rowIs.ab P35.out AZ.out).setOther (a := ⟨b2, c, none⟩) (Ne.symm NN.out.2.2.2.1) (.int .i64 xw))
        have P46 := hid ((rowIs.ab P45.out AZ.out).setOther (a := ⟨b2, c, none⟩) (Ne.symm NN.out.2.2.2.2.1) (.int .i64 xw))
        have H56 : Hid ((z.setCell ⟨b2, c, none⟩ (.int .i64 xw)).heap[g5]? = some (.cells #[.slice (some ⟨b1, 0, none⟩) N N, .slice (some ⟨b2, 0, none⟩) N N, .slice (some ⟨b3, 0, none⟩) N N, .slice (some ⟨b4, 0, none⟩) M M, .int .i64 sky, .int .i64 st] 33)) := (heap_set_ne (Ne.symm (NG.out.2.1))).trans (Ab.heap AZ.out H55.out)
        have K6 : Hid (Ab v2 (z.setCell ⟨b2, c, none⟩ (.int .i64 xw))) := (K5.out.trans AZ.out).setk LL.out.2.1 _
        clear z1 z2 AZ P15 P25 P35 P45 H55 K5
        generalize World.setCell z _ _ = v6 at *
        clear z
        obtain ⟨UU, E, hF1, hF2⟩ := cls v6
        have HU := hid hF2
        have HU1 := hid hF1
        have y0 : ∀ u, (E u).cell? ⟨g5, 2, none⟩ = some (.slice (some ⟨b3, 0, none⟩) N N) := fun u => cell_of_row _ _ 2 _ _ _ ((hF1 u).heap H56.out)
        have y1 : ∀ u, (E u).cell? ⟨ga, 2, none⟩ = some (.slice (some ⟨qt, ot, none⟩) N ct) := fun u => cell_of_row _ _ 2 _ _ _ ((K6.out.trans (hF1 u)).heap R2.out)
        have y2 : ∀ u, (E u).cell? ⟨qt, ot + k, none⟩ = some (.int .i64 xt) := fun u => YT.out _ (A2.out.trans (K6.out.trans (hF1 u)))
        have DD0 := HU.out _ (Ab.refl v6).drew
        clear hF1 hF2
        refine region_tail 9 E (by kernel_rfl) (by kernel_rfl) (by kernel_rfl) DD0 ?_
        simp only [List.take_succ_cons, List.take_zero, List.drop_succ_cons, List.drop_zero]
        repeat (go_big_quiet_step (with_reducible rfl))
        refine wpQuiet_nil ?_
        intro z hwz
        obtain ⟨u0, hu⟩ := hwz
        have AZ : Hid (Ab v6 z) := by rw [hu]; exact HU1.out u0
        clear hu u0
        clear HU HU1 DD0 y0 y1 y2
        clear E UU
        have z1 := (rowIs.ab P36.out AZ.out).cell CL.out
        have z2 := (rowIs.ab P36.out AZ.out).frozen c
        go_wp2_with fail
        have P37 := hid ((rowIs.ab P36.out AZ.out).set c (.int .i64 xt))
        have P17 := hid ((rowIs.ab P16.out AZ.out).setOther (a := ⟨b3, c, none⟩) (NN.out.2.1) (.int .i64 xt))
        have P27 := hid ((rowIs.ab P26.out AZ.out).setOther (a := ⟨b3, c, none⟩) (NN.out.2.2.2.1) (.int .i64 xt))
        have P47 := hid ((rowIs.ab P46.out AZ.out).setOther (a := ⟨b3, c, none⟩) (Ne.symm NN.out.2.2.2.2.2) (.int .i64 xt))
        have H57 : Hid ((z.setCell ⟨b3, c, none⟩ (.int .i64 xt)).heap[g5]? = some (.cells #[.slice (some ⟨b1, 0, none⟩) N N, .slice (some ⟨b2, 0, none⟩) N N, .slice (some ⟨b3, 0, none⟩) N N, .slice (some ⟨b4, 0, none⟩) M M, .int .i64 sky, .int .i64 st] 33)) := (heap_set_ne (Ne.symm (NG.out.2.2.1))).trans (Ab.heap AZ.out H56.out)
        have K7 : Hid (Ab v2 (z.setCell ⟨b3, c, none⟩ (.int .i64 xt))) := (K6.out.trans AZ.out).setk LL.out.2.2.1 _
        clear z1 z2 AZ P16 P26 P36 P46 H56 K6
        refine ⟨⟨k + 1, _, _, _, by have := HK.out; omega, by simp, K7.out, H57.out, P17.out, P27.out, P37.out, P47.out, fun d hd => ?_⟩, by have := HK.out; simp [intOf]; omega⟩
        by_cases e : d = k
        · subst e
          rw [CC.out, XV.out.1, XV.out.2.1, XV.out.2.2]
          simp
        · have l : d < k := by omega
          have h := HQ.out d l
          have ne := OLD.out d l
          simp [ne, h.1, h.2.1, h.2.2]
      · have e6 : N = k := by omega
        subst e6
        have OW := AW
        have OH := H5
        have O1 := P1
        have O2 := P2
        have O3 := P3
        have O4 := P4
        clear AW H5 P1 P2 P3 P4 hkn hk
        go_wp2
        go_loopw [17] (fun iv wr => ∃ (k : Nat) (F4 : Nat → Value), k ≤ M ∧ iv = .int .i64 (k : Nat) ∧ Ab v2 wr ∧ wr.heap[g5]? = some (.cells #[.slice (some ⟨b1, 0, none⟩) N N, .slice (some ⟨b2, 0, none⟩) N N, .slice (some ⟨b3, 0, none⟩) N N, .slice (some ⟨b4, 0, none⟩) M M, .int .i64 sky, .int .i64 st] 33) ∧ wr.rowIs b1 22 N F1 ∧ wr.rowIs b2 2 N F2 ∧ wr.rowIs b3 2 N F3 ∧ wr.rowIs b4 22 M F4 ∧ (∀ i, i < k → F4 (at_ i) = .float .f64 (if sg i < 0 then ngC (S i) else S i))) (fun iv _ => M - (intOf iv).toNat)
        case atStart => exact ⟨0, _, by omega, rfl, OW.out, OH.out, O1.out, O2.out, O3.out, O4.out, fun c hc => absurd hc (Nat.not_lt_zero c)⟩
        case round =>
          obtain ⟨k, F4, hk, rfl, ar, h5, r1, r2, r3, r4, hq⟩ := hrel
          clear OW OH O1 O2 O3 O4
          have AW := hid ar
          have H5 := hid h5
          have P1 := hid r1
          have P2 := hid r2
          have P3 := hid r3
          have P4 := hid r4
          have HQ4 := hid hq
          clear ar h5 r1 r2 r3 r4 hq
          have x0 := cell_of_row _ _ 0 _ _ _ (AW.out.heap R2.out)
          have x1 := cell_of_row _ _ 1 _ _ _ (AW.out.heap R2.out)
          have x2 := cell_of_row _ _ 2 _ _ _ (AW.out.heap R2.out)
          have x3 := cell_of_row _ _ 3 _ _ _ (AW.out.heap R2.out)
          have x4 := cell_of_row _ _ 4 _ _ _ (AW.out.heap R2.out)
          have x5 := cell_of_row _ _ 5 _ _ _ (AW.out.heap R2.out)
          by_cases hkn : k < M
          · have HK := hid hkn
            have kI : (k : Int) < M := by omega
            have kB : (k : Int) ≤ 12288 := by have := HN.out.2; omega
            have CE := hid (ED.out wr rb k (G2.out.to AW.out) hkn)
            have CA0 := fun v (a : Ab v2 v) => AR.out v rb k (G2.out.to a) hkn
            obtain ⟨l1, l2, l3⟩ := EL.out k hkn
            obtain ⟨l, hl⟩ : ∃ x, lc k = x := ⟨_, rfl⟩
            obtain ⟨s, hs⟩ : ∃ x, sd k = x := ⟨_, rfl⟩
            obtain ⟨rcl, hrc⟩ : ∃ x, rc k = x := ⟨_, rfl⟩
            obtain ⟨bkl, hbk⟩ : ∃ x, bk k = x := ⟨_, rfl⟩
            obtain ⟨a, ha⟩ : ∃ x, at_ k = x := ⟨_, rfl⟩
            obtain ⟨g, hg⟩ : ∃ x, sg k = x := ⟨_, rfl⟩
            rw [hl] at l1 CE CA0
            rw [hs] at l2 CE CA0
            rw [hrc, hbk] at CE
            rw [ha] at l3 CA0
            rw [hg] at CA0
            have CT0 := fun v => TN.out v l l1
            have tl := (TL.out l l1).2
            have tl1 := (TL.out l l1).1
            obtain ⟨c, hc⟩ : ∃ x, tc l = x := ⟨_, rfl⟩
            obtain ⟨q, hq⟩ : ∃ x, tq l = x := ⟨_, rfl⟩
            rw [hq] at tl CA0 CT0
            rw [hc] at CA0 CT0 tl1
            obtain ⟨u, hu⟩ : ∃ x, (s + q) % 4 = x := ⟨_, rfl⟩
            have rm : ((s : Int) + (q : Int)).tmod 4 = (u : Nat) := by rw [Int.tmod_eq_emod_of_nonneg (by omega)]; omega
            rw [hu] at CA0
            have CA := hid CA0
            have CT := hid CT0
            have sB : (s : Int) < 4 := by omega
            have qB : (q : Int) < 4 := by omega
            have aI : (a : Int) < M := by omega
            have aB : (a : Int) ≤ 12288 := by have := HN.out.2; omega
            have AL := hid l3
            have AG := hid (And.intro ha hg)
            obtain ⟨x, hx⟩ : ∃ x, S k = x := ⟨_, rfl⟩
            have XE := hid hx
            have xl : x < 18446744073709551616 := by rw [← hx]; exact (IS.out k hkn).1
            have YS : Hid (∀ v, Ab w v → v.cell? ⟨qs, os + k, none⟩ = some (.float .f64 x)) := fun v a => by rw [← hx]; exact ((IS.out.below a).at0 hkn).2.2
            have OLD : Hid (∀ d, d < k → at_ d ≠ a) := fun d hd e => by
              have := EI.out d k (by omega) hkn (by rw [e, ha])
              omega
            obtain ⟨nx, hnx⟩ : ∃ y, negB x = y := ⟨_, rfl⟩
            have nf : Op.negFloat .f64 x = nx := by rw [← hnx]; exact negFloat_eq x xl
            have CN : Hid (∀ v, Calls Tryz.prog 57 #[.float .f64 nx] v fun e w' => e = .returned (.float .f64 (ngC x)) ∧ Below v.heap.size v w') := fun v => (refCanon_any nx v).mono fun e w' h => ⟨by rw [h.1]; unfold ngC; rw [hnx], by rw [h.2]; exact Below.refl _ _⟩
            obtain ⟨y, hy⟩ : ∃ y, ngC x = y := ⟨_, rfl⟩
            rw [hy] at CN
            have YE := hid hy
            clear CA0 CT0 l1 l2 l3 hl hs hrc hbk ha hg hc hq hu tl tl1 hx hnx hy xl hkn hk
            go_wp2_with fail
            refine CE.out.mono ?_
            rintro e9 v4 ⟨rfl, b4'⟩
            have A4 : Hid (Ab wr v4) := b4'
            clear b4' CE x0 x1 x2 x3 x4 x5
            have E5 : Hid ((v4.alloc (.cells #[.int .i64 (l : Nat), .int .i64 (s : Nat), .int .i64 (rcl : Nat), .int .i64 (bkl : Nat)] 84)).heap[v4.heap.size]? = some (.cells #[.int .i64 (l : Nat), .int .i64 (s : Nat), .int .i64 (rcl : Nat), .int .i64 (bkl : Nat)] 84)) := heap_alloc_new _ _
            have A5 : Hid (Ab wr (v4.alloc (.cells #[.int .i64 (l : Nat), .int .i64 (s : Nat), .int .i64 (rcl : Nat), .int .i64 (bkl : Nat)] 84))) := A4.out.trans (bl1 _ _)
            go_upto_region 20 with fail
            generalize hW : World.alloc v4 _ = v5 at *
            obtain ⟨ge, hge⟩ : ∃ g, v4.heap.size = g := ⟨_, rfl⟩
            rw [hge] at E5 ⊢
            clear hge hW A4
            have y0 := cell_of_row _ _ 0 _ _ _ E5.out
            go_wp2_with fail
            refine (CT.out v5).mono ?_
            rintro e9 v6 ⟨rfl, b6⟩
            have A6 : Hid (Ab wr v6) := A5.out.trans b6
            have E6 := hid (Ab.heap b6 E5.out)
            clear b6 CT y0 E5 A5
            have y1 := cell_of_row _ _ 1 _ _ _ E6.out
            go_wp2_with fail
            refine (CA.out v6 (AW.out.trans A6.out)).mono ?_
            rintro e9 v7 ⟨rfl, b7⟩
            have A7 : Hid (Ab wr v7) := A6.out.trans b7
            have K7 : Hid (Ab v2 v7) := AW.out.trans A7.out
            have H57 := hid (Ab.heap A7.out H5.out)
            have P17 := hid (rowIs.ab P1.out A7.out)
            have P27 := hid (rowIs.ab P2.out A7.out)
            have P37 := hid (rowIs.ab P3.out A7.out)
            have P47 := hid (rowIs.ab P4.out A7.out)
            clear b7 CA y1 E6 A6 A7 H5 P1 P2 P3 P4 AW
            go_upto_region 22 with fail
            obtain ⟨UU, E, hF1, hF2⟩ := cls v7
            have HU := hid hF2
            have HU1 := hid hF1
            have y0 : ∀ u, (E u).cell? ⟨g5, 3, none⟩ = some (.slice (some ⟨b4, 0, none⟩) M M) := fun u => cell_of_row _ _ 3 _ _ _ ((hF1 u).heap H57.out)
            have y1 : ∀ u, (E u).cell? ⟨ga, 3, none⟩ = some (.slice (some ⟨qs, os, none⟩) M cs) := fun u => cell_of_row _ _ 3 _ _ _ ((K7.out.trans (hF1 u)).heap R2.out)
            have y2 : ∀ u, (E u).cell? ⟨qs, os + k, none⟩ = some (.float .f64 x) := fun u => YS.out _ (A2.out.trans (K7.out.trans (hF1 u)))
            have DD0 := HU.out _ (Ab.refl v7).drew
            clear hF1 hF2
            refine region_tail 9 E (by kernel_rfl) (by kernel_rfl) (by kernel_rfl) DD0 ?_
            simp only [List.take_succ_cons, List.take_zero, List.drop_succ_cons, List.drop_zero]
            repeat (go_big_quiet_step (with_reducible rfl))
            refine wpQuiet_nil ?_
            intro z hwz
            obtain ⟨u0, hu⟩ := hwz
            have AZ : Hid (Ab v7 z) := by rw [hu]; exact HU1.out u0
            clear hu u0
            clear HU HU1 DD0 y0 y1 y2
            clear E UU
            have z1 := (rowIs.ab P47.out AZ.out).cell AL.out
            have z2 := (rowIs.ab P47.out AZ.out).frozen a
            go_upto_region 23 with fail
            have P48 := hid ((rowIs.ab P47.out AZ.out).set a (.float .f64 x))
            have P18 := hid ((rowIs.ab P17.out AZ.out).setOther (a := ⟨b4, a, none⟩) (NN.out.2.2.1) (.float .f64 x))
            have P28 := hid ((rowIs.ab P27.out AZ.out).setOther (a := ⟨b4, a, none⟩) (NN.out.2.2.2.2.1) (.float .f64 x))
            have P38 := hid ((rowIs.ab P37.out AZ.out).setOther (a := ⟨b4, a, none⟩) (NN.out.2.2.2.2.2) (.float .f64 x))
            have H58 : Hid ((z.setCell ⟨b4, a, none⟩ (.float .f64 x)).heap[g5]? = some (.cells #[.slice (some ⟨b1, 0, none⟩) N N, .slice (some ⟨b2, 0, none⟩) N N, .slice (some ⟨b3, 0, none⟩) N N, .slice (some ⟨b4, 0, none⟩) M M, .int .i64 sky, .int .i64 st] 33)) := (heap_set_ne (Ne.symm (NG.out.2.2.2))).trans (Ab.heap AZ.out H57.out)
            have K8 : Hid (Ab v2 (z.setCell ⟨b4, a, none⟩ (.float .f64 x))) := (K7.out.trans AZ.out).setk LL.out.2.2.2.1 _
            clear z1 z2 AZ P17 P27 P37 P47 H57 K7
            generalize World.setCell z _ _ = v8 at *
            clear z
            by_cases gq : g < 0
            · have d5 : decide (g < 0) = true := decide_eq_true gq
              go_upto_region 24 with fail
              obtain ⟨UU, E, hF1, hF2⟩ := cls v8
              have HU := hid hF2
              have HU1 := hid hF1
              have y0 : ∀ u, (E u).cell? ⟨g5, 3, none⟩ = some (.slice (some ⟨b4, 0, none⟩) M M) := fun u => cell_of_row _ _ 3 _ _ _ ((hF1 u).heap H58.out)
              have y1 : ∀ u, (E u).cell? ⟨ga, 3, none⟩ = some (.slice (some ⟨qs, os, none⟩) M cs) := fun u => cell_of_row _ _ 3 _ _ _ ((K8.out.trans (hF1 u)).heap R2.out)
              have y2 : ∀ u, (E u).cell? ⟨qs, os + k, none⟩ = some (.float .f64 x) := fun u => YS.out _ (A2.out.trans (K8.out.trans (hF1 u)))
              have DD0 := HU.out _ (Ab.refl v8).drew
              clear hF1 hF2
              refine region_tail 11 E (by kernel_rfl) (by kernel_rfl) (by kernel_rfl) DD0 ?_
              simp only [List.take_succ_cons, List.take_zero, List.drop_succ_cons, List.drop_zero]
              repeat (go_big_quiet_step (first | (go_at_call 57; exact calls_cls HU HU1 (CN.out _)) | (with_reducible rfl)))
              refine wpQuiet_nil ?_
              intro z hwz
              obtain ⟨u0, hu⟩ := hwz
              have AZ : Hid (Ab v8 z) := by rw [hu]; exact HU1.out u0
              clear hu u0
              clear HU HU1 DD0 y0 y1 y2
              clear E UU
              have z1 := (rowIs.ab P48.out AZ.out).cell AL.out
              have z2 := (rowIs.ab P48.out AZ.out).frozen a
              go_wp2_with fail
              have P49 := hid ((rowIs.ab P48.out AZ.out).set a (.float .f64 y))
              have P19 := hid ((rowIs.ab P18.out AZ.out).setOther (a := ⟨b4, a, none⟩) (NN.out.2.2.1) (.float .f64 y))
              have P29 := hid ((rowIs.ab P28.out AZ.out).setOther (a := ⟨b4, a, none⟩) (NN.out.2.2.2.2.1) (.float .f64 y))
              have P39 := hid ((rowIs.ab P38.out AZ.out).setOther (a := ⟨b4, a, none⟩) (NN.out.2.2.2.2.2) (.float .f64 y))
              have H59 : Hid ((z.setCell ⟨b4, a, none⟩ (.float .f64 y)).heap[g5]? = some (.cells #[.slice (some ⟨b1, 0, none⟩) N N, .slice (some ⟨b2, 0, none⟩) N N, .slice (some ⟨b3, 0, none⟩) N N, .slice (some ⟨b4, 0, none⟩) M M, .int .i64 sky, .int .i64 st] 33)) := (heap_set_ne (Ne.symm (NG.out.2.2.2))).trans (Ab.heap AZ.out H58.out)
              have K9 : Hid (Ab v2 (z.setCell ⟨b4, a, none⟩ (.float .f64 y))) := (K8.out.trans AZ.out).setk LL.out.2.2.2.1 _
              clear z1 z2 AZ P18 P28 P38 P48 H58 K8
              refine ⟨⟨k + 1, _, by have := HK.out; omega, by simp, K9.out, H59.out, P19.out, P29.out, P39.out, P49.out, fun d hd => ?_⟩, by have := HK.out; simp [intOf]; omega⟩
              by_cases e : d = k
              · subst e
                rw [AG.out.1, AG.out.2, XE.out, if_pos gq, YE.out]
                simp
              · have h := HQ4.out d (by omega)
                have ne := OLD.out d (by omega)
                simp [ne, h]
            · have d5 : decide (g < 0) = false := decide_eq_false gq
              go_wp2_with fail
              refine ⟨⟨k + 1, _, by have := HK.out; omega, by simp, K8.out, H58.out, P18.out, P28.out, P38.out, P48.out, fun d hd => ?_⟩, by have := HK.out; simp [intOf]; omega⟩
              by_cases e : d = k
              · subst e
                rw [AG.out.1, AG.out.2, XE.out, if_neg gq]
                simp
              · have h := HQ4.out d (by omega)
                have ne := OLD.out d (by omega)
                simp [ne, h]
          · have e6 : M = k := by omega
            subst e6
            have QZ := hid ((B2.out.heap Q0.out))
            have QW : Hid (wr.heap[gr]? = some (.cells #[.slice none 0 0, .slice none 0 0, .slice none 0 0, .slice none 0 0, .int .i64 0, .int .i64 0] 33)) := Ab.heap AW.out Q2.out
            have GL : Hid (gr < v2.heap.size) := Rv.lt_of_get Q2.out
            clear hkn hk
            have o0 := cell_of_row _ _ 0 _ _ _ H5.out
            have o1 := cell_of_row _ _ 1 _ _ _ H5.out
            have o2 := cell_of_row _ _ 2 _ _ _ H5.out
            have o3 := cell_of_row _ _ 3 _ _ _ H5.out
            have o4 := cell_of_row _ _ 4 _ _ _ H5.out
            have o5 := cell_of_row _ _ 5 _ _ _ H5.out
            have t0 := cell_of_row _ _ 0 _ _ _ QW.out
            have t1 := cell_of_row _ _ 1 _ _ _ QW.out
            have t2 := cell_of_row _ _ 2 _ _ _ QW.out
            have t3 := cell_of_row _ _ 3 _ _ _ QW.out
            have t4 := cell_of_row _ _ 4 _ _ _ QW.out
            have t5 := cell_of_row _ _ 5 _ _ _ QW.out
            have f0 := free_row QW.out 0
            have f1 := free_row QW.out 1
            have f2 := free_row QW.out 2
            have f3 := free_row QW.out 3
            have f4 := free_row QW.out 4
            have f5 := free_row QW.out 5
            go_wp2_with fail
            have RY := hid (row6 (x := .slice (some ⟨b1, 0, none⟩) N N) (y := .slice (some ⟨b2, 0, none⟩) N N) (z := .slice (some ⟨b3, 0, none⟩) N N) (p := .slice (some ⟨b4, 0, none⟩) M M) (q := .int .i64 sky) (r := .int .i64 st) QW.out)
            (try simp only [Exit.inBlock, Exit.then])
            refine bodyPost_ret (v := .tuple #[.agg #[.slice (some ⟨b1, 0, none⟩) N N, .slice (some ⟨b2, 0, none⟩) N N, .slice (some ⟨b3, 0, none⟩) N N, .slice (some ⟨b4, 0, none⟩) M M, .int .i64 sky, .int .i64 st], .int .i64 0]) ?_ rfl ?_
            · exact res_two Tryz.results20 _ _ gr _ _ (0, 0) _ _ rfl rfl RY.out Tryz.underlying33 rfl (by kernel_rfl)
            obtain ⟨l1, l2, l3, l4, l5⟩ := LL.out
            obtain ⟨n12, n13, n14, n23, n24, n34⟩ := NN.out
            have gl := GL.out
            have hg := HG.out
            have hs := A2.out.size
            have hn := HN.out
            have st_ : ∀ (b n : Nat) (t : TypeId) (f : Nat → Value), b ≠ gr → wr.rowIs b t n f → ∀ x0 x1 x2 x3 x4 x5, ((((((wr.setCell ⟨gr, 0, none⟩ x0).setCell ⟨gr, 1, none⟩ x1).setCell ⟨gr, 2, none⟩ x2).setCell ⟨gr, 3, none⟩ x3).setCell ⟨gr, 4, none⟩ x4).setCell ⟨gr, 5, none⟩ x5).rowIs b t n f := fun b n t f hb h x0 x1 x2 x3 x4 x5 => (((((h.setOther (a := ⟨gr, 0, none⟩) hb x0).setOther (a := ⟨gr, 1, none⟩) hb x1).setOther (a := ⟨gr, 2, none⟩) hb x2).setOther (a := ⟨gr, 3, none⟩) hb x3).setOther (a := ⟨gr, 4, none⟩) hb x4).setOther (a := ⟨gr, 5, none⟩) hb x5
            have f1 : ∀ i, i < N → F1 i = .float .f64 (B' i) ∧ F2 i = .int .i64 (W' i) ∧ F3 i = .int .i64 (T' i) := fun i hi => by
              obtain ⟨c, hc, e, e1, e2, e3⟩ := TB.out i hi
              have h := HQ.out c hc
              rw [e] at h
              rw [e1, e2, e3]
              exact h
            have f4 : ∀ i, i < M → F4 i = .float .f64 (S' i) := fun i hi => by
              obtain ⟨j, hj, e, e1⟩ := TS.out i hi
              have h := HQ4.out j hj
              rw [e] at h
              rw [e1]
              exact h
            refine ⟨_, rfl, (((((((A2.out.trans AW.out).setk hg _).setk hg _).setk hg _).setk hg _).setk hg _).setk hg _), _, _, _, _, rfl, ?_, ?_, ?_, ?_, ?_, ?_⟩
            · exact ownG_row ((st_ b1 _ _ _ (by omega) P1.out _ _ _ _ _ _).congr (fun i hi => (f1 i hi).1)) (by omega) (by unfold maxLen; omega)
            · exact own_rowI ((st_ b2 _ _ _ (by omega) P2.out _ _ _ _ _ _).congr (fun i hi => (f1 i hi).2.1)) (by omega) (by unfold maxLen; omega)
            · exact own_rowI ((st_ b3 _ _ _ (by omega) P3.out _ _ _ _ _ _).congr (fun i hi => (f1 i hi).2.2)) (by omega) (by unfold maxLen; omega)
            · exact ownG_row ((st_ b4 _ _ _ (by omega) P4.out _ _ _ _ _ _).congr (fun i hi => f4 i hi)) (by omega) (by unfold maxLen; omega)
            · intro k h1 h2
              simp only [Value.ownBlock, Option.some.injEq] at h1 h2
              omega
            · intro k h1 h2
              simp only [Value.ownBlock, Option.some.injEq] at h1 h2
              omega
/-- WHAT THE REFERENCE'S Turned ANSWERS -/
theorem rturned_at (side : Int) (pb : Option Addr) (lb cb : Nat) (B : Nat → Nat) (pw : Option Addr) (lw cw : Nat) (W : Nat → Int) (pt : Option Addr) (lt ct : Nat) (T : Nat → Int) (ps : Option Addr) (ls cs : Nat) (S : Nat → Nat) (sky st : Int) (turn : Int) (w : World) (hl : (lb ≤ 131072 ∧ lw ≤ 131072 ∧ lt ≤ 131072 ∧ ls ≤ 131072)) (i1 : IsFl w pb lb B) (i2 : Sh.IsI w pw lw W) (i3 : Sh.IsI w pt lt T) (i4 : IsFl w ps ls S) :
    (tuE side lb lw lt ls B W T S sky st turn = 0 → Calls Tryz.prog 20 #[.int .i64 side, .agg #[.slice pb lb cb, .slice pw lw cw, .slice pt lt ct, .slice ps ls cs, .int .i64 sky, .int .i64 st], .int .i64 turn] w fun e w' => ∃ v, e = .returned (.tuple #[v, .int .i64 0]) ∧ Below w.heap.size w w' ∧ OwnS w.heap.size v lb lw lt ls (tuC side.toNat turn.toNat B) (tuC side.toNat turn.toNat W) (tuC side.toNat turn.toNat T) (tuS side.toNat turn.toNat S) sky st w') ∧
    (tuE side lb lw lt ls B W T S sky st turn ≠ 0 → Calls Tryz.prog 20 #[.int .i64 side, .agg #[.slice pb lb cb, .slice pw lw cw, .slice pt lt ct, .slice ps ls cs, .int .i64 sky, .int .i64 st], .int .i64 turn] w fun e w' => e = .returned (.tuple #[.agg #[.slice none 0 0, .slice none 0 0, .slice none 0 0, .slice none 0 0, .int .i64 0, .int .i64 0], .int .i64 (tuE side lb lw lt ls B W T S sky st turn)]) ∧ Below w.heap.size w w') := by
  have CK := fun v (a : Ab w v) => rcheck_at side pb lb cb B pw lw cw W pt lt ct T ps ls cs S sky st v (le20 hl) (i1.below a) (i2.below a) (i3.below a) (i4.below a)
  obtain ⟨ck, hck⟩ : ∃ c, chk side lb lw lt ls B W T S sky st = c := ⟨_, rfl⟩
  by_cases h0 : ck.2 = 0
  · by_cases ht : 0 ≤ turn ∧ turn ≤ 23
    · have te : tuE side lb lw lt ls B W T S sky st turn = 0 := by
        unfold tuE
        rw [hck, if_neg (by omega), if_pos ht]
      refine ⟨fun _ => ?_, fun q => absurd te q⟩
      obtain ⟨hs, ⟨l1, l2, l3, l4⟩, -⟩ := tuE_ok te
      obtain ⟨n, rfl⟩ : ∃ n : Nat, side = (n : Nat) := ⟨side.toNat, by omega⟩
      obtain ⟨r, rfl⟩ : ∃ r : Nat, turn = (r : Nat) := ⟨turn.toNat, by omega⟩
      rw [Int.toNat_natCast] at l1 l2 l3 l4
      rw [Int.toNat_natCast, Int.toNat_natCast]
      have hn : 1 ≤ n ∧ n ≤ 32 := by omega
      have hr : r < 24 := by omega
      have e12 : 2 * (6 * n * n) = 12 * n * n := by rw [Nat.mul_assoc, Nat.mul_assoc]; omega
      rw [e12] at l4
      have p1 : 0 < n * n := Nat.mul_pos (by omega) (by omega)
      have p2 : n * n ≤ 32 * 32 := Nat.mul_le_mul hn.2 hn.2
      have q6 : 6 * n * n = 6 * (n * n) := Nat.mul_assoc _ _ _
      have q12 : 12 * n * n = 12 * (n * n) := Nat.mul_assoc _ _ _
      rw [hck, h0] at CK
      clear hck te
      subst l1 l2 l3 l4
      obtain ⟨qb, ob, rfl⟩ := i1.some0 (show 0 < 6 * n * n by omega)
      obtain ⟨qw, ow, rfl⟩ := i2.some0 (show 0 < 6 * n * n by omega)
      obtain ⟨qt, ot, rfl⟩ := i3.some0 (show 0 < 6 * n * n by omega)
      obtain ⟨qs, os, rfl⟩ := i4.some0 (show 0 < 12 * n * n by omega)
      exact rturned_go n (6 * n * n) (12 * n * n) qb ob cb qw ow cw qt ot ct qs os cs B W T S sky st r ck.1 (tnC n r) (tnS n r) (fun i => edT n i / 4) (fun i => edT n i % 4) (fun i => bsC n (edT n i / 4) (edT n i % 4)) (fun i => bsS n (edT n i / 4) (edT n i % 4)) (atS n r) (fun i => eS n (tnT n r (edT n i))) (tuC n r B) (tuC n r W) (tuC n r T) (tuS n r S) w (by omega) (by omega) (by omega) CK
        (fun v _ => (rnew_at n v hn).mono fun e w' h => by
          obtain ⟨rb, ab, es, rfl, a1, re⟩ := h
          exact ⟨rb, rfl, a1, RE.all hn.1 re⟩)
        (fun v c hc => rturn_at n r c v hn hc hr)
        (fun v rb i g hi => by
          obtain ⟨h1, h2, h3⟩ := edT_spec hn.1 hi
          have e := rEdge_ok hn h1 h2 g
          rw [h3] at e
          exact e)
        (fun v rb i g hi => by
          obtain ⟨h1, h2, h3⟩ := edT_spec hn.1 hi
          exact rAround_ok hn (tn_in hn.1 hr (t_cell h1)) (Nat.mod_lt _ (by omega)) g)
        (fun c hc => tn_lt9 hn.1 hc hr) (fun c d hc hd h => tn_inj hn.1 hr hc hd h)
        (fun i hi => ⟨t_cell (edT_spec hn.1 hi).1, Nat.mod_lt _ (by omega), atS_lt hn.1 hr hi⟩) (fun i j hi hj h => atS_inj hn.1 hr hi hj h)
        (fun i hi => ⟨tnC n (inv r) i, tn_in hn.1 (inv_tab r hr).1 hi, (tn_inv hn.1 hr hi).2, rfl, rfl, rfl⟩)
        (fun e he => atS_ex hn.1 hr S he) i1 i2 i3 i4
    · have te : tuE side lb lw lt ls B W T S sky st turn = 1 := by
        unfold tuE
        rw [hck, if_neg (by omega), if_neg ht]
      refine ⟨fun q => absurd (te.symm.trans q) (by decide), fun _ => ?_⟩
      rw [te]
      rw [hck, h0] at CK
      exact rturned_arg side pb lb cb pw lw cw pt lt ct ps ls cs sky st turn ck.1 w ht CK
  · have te : tuE side lb lw lt ls B W T S sky st turn = ck.2 := by
      unfold tuE
      rw [hck, if_pos h0]
    refine ⟨fun q => absurd (te.symm.trans q) h0, fun _ => ?_⟩
    rw [te]
    rw [hck] at CK
    exact rturned_chk side pb lb cb pw lw cw pt lt ct ps ls cs sky st turn ck.1 ck.2 w (by simpa using h0) CK
end Ss
end Go.Proofs.YtdigecacmibkpaaGreatDoor
