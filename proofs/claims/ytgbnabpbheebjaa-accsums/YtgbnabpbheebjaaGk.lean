/-
  New, Add, Count, errors: walks over the program.
-/
import Derived.Test.YtgbnabpbheebjaaGj
import Derived.Deep.WholeRow
import Derived.Deep.Cut
import Derived.BigQuiet
import Derived.Deep.RegionWith
namespace Go.Proofs.Ytgbnabpbheebjaa
open Go.RowKit Tf
attribute [local go_sem] run_bits run_from raw_feq raw_fne raw_flt raw_fgt run_neg

theorem wpList_box {P : Program} {ops : Array Oper} {rest : List Oper} {o : Oper} {a : Act} {w : World} {Q : Exit → Act → World → Prop} (hgd : o.guard = none) (ty : TypeId) (x : Operand) (ho : o.op = .box ty x) (c : Array Value) (hx : a.eval x = .agg c)
    (h : wpList P ops Q rest (a.put o.dst (.pointer (some ⟨w.heap.size, 0, none⟩))) (w.alloc (.cells c ty))) : wpList P ops Q (o :: rest) a w := by
  refine wpList_plain hgd fun K hK => ?_
  have hr : (execOp a.eval o).run P w = .ok (.value (.pointer (some ⟨w.heap.size, 0, none⟩))) (w.alloc (.cells c ty)) := by
    unfold execOp
    simp only [ho, hx, Instr.box, newVar, newRow, Value.cells, Sem.run_bind, run_newObj_alloc, Result.andThen_ok, Sem.run_pure]
  unfold Oper.wp
  rw [hr, Oper.upon_value]
  exact hK _ _ h
theorem wpList_alloc_row {P : Program} {ops : Array Oper} {rest : List Oper} {o : Oper} {a : Act} {w : World} {Q : Exit → Act → World → Prop} (hgd : o.guard = none) (ty : TypeId) (ho : o.op = .alloc ty) (c : Array Value) (hz : ∀ w, (zeroValue ty).run P w = .ok (.agg c) w)
    (h : wpList P ops Q rest (a.put o.dst (.pointer (some ⟨w.heap.size, 0, none⟩))) (w.alloc (.cells c ty))) : wpList P ops Q (o :: rest) a w := by
  refine wpList_plain hgd fun K hK => ?_
  have hr : (execOp a.eval o).run P w = .ok (.value (.pointer (some ⟨w.heap.size, 0, none⟩))) (w.alloc (.cells c ty)) := by
    unfold execOp
    simp [ho, hz, go_sem]
  unfold Oper.wp
  rw [hr, Oper.upon_value]
  exact hK _ _ h

theorem wpList_build0 {P : Program} {ops : Array Oper} {rest : List Oper} {o : Oper} {a : Act} {w : World} {Q : Exit → Act → World → Prop} (hgd : o.guard = none) (ty : TypeId) (ho : o.op = .build ty #[]) (c : Array Value) (hb : P.built ty [] = some c)
    (h : wpList P ops Q rest (a.put o.dst (.agg c)) w) : wpList P ops Q (o :: rest) a w :=
  wpList_build hgd ty #[] ho (by simp [hb]) (by simpa [hb] using h)
def S0 : AS := ⟨0, 0, 0, false, false, false⟩
theorem built_acc : Try.prog.built 56 [] = some (encA S0) := by
  kernel_rfl

set_option maxHeartbeats 2000000 in
theorem new_go (w : World) : Calls Try.prog 10 #[] w fun e w' => e = .returned (.pointer (some ⟨w.heap.size, 0, none⟩)) ∧ w' = w.alloc (.cells (encA S0) 56) := by
  go_enter Try.func10, Try.ntmps10
  go_upto_region 1 with fail
  rename_i K hK
  apply wp_region_lit
  refine wpList_build0 rfl 56 rfl (encA S0) built_acc ?_
  refine wpList_box rfl 56 _ rfl (encA S0) rfl ?_
  go_wp2
  go_ret
  exact ⟨rfl, rfl⟩
set_option maxHeartbeats 2000000 in
theorem add_nil (x : Nat) (w : World) : Calls Try.prog 12 #[.pointer none, .float .f64 x] w fun e w' => e = .returned (.int .i64 2) ∧ w' = w := by
  go_enter Try.func12, Try.ntmps12
  go_wp2
  go_ret
  exact ⟨rfl, rfl⟩
set_option maxHeartbeats 2000000 in
theorem count_at (g : Nat) (c : Int) (w : World) (h0 : w.cell? ⟨g, 0, none⟩ = some (.int .i64 c)) : Calls Try.prog 18 #[.pointer (some ⟨g, 0, none⟩)] w fun e w' => e = .returned (.int .i64 c) ∧ w' = w := by
  go_enter Try.func18, Try.ntmps18
  go_wp2
  go_ret
  exact ⟨rfl, rfl⟩
set_option maxHeartbeats 2000000 in
theorem count_nil (w : World) : Calls Try.prog 18 #[.pointer none] w fun e w' => e = .returned (.int .i64 0) ∧ w' = w := by
  go_enter Try.func18, Try.ntmps18
  go_wp2
  go_ret
  exact ⟨rfl, rfl⟩
set_option maxHeartbeats 2000000 in
theorem addp_nil (x y : Nat) (w : World) : Calls Try.prog 14 #[.pointer none, .float .f64 x, .float .f64 y] w fun e w' => e = .returned (.int .i64 2) ∧ w' = w := by
  go_enter Try.func14, Try.ntmps14
  go_wp2
  go_ret
  exact ⟨rfl, rfl⟩
set_option maxHeartbeats 2000000 in
theorem addp_long (g x y : Nat) (c : Int) (w : World) (h0 : w.cell? ⟨g, 0, none⟩ = some (.int .i64 c)) (hc : 1048576 ≤ c) : Calls Try.prog 14 #[.pointer (some ⟨g, 0, none⟩), .float .f64 x, .float .f64 y] w fun e w' => e = .returned (.int .i64 3) ∧ w' = w := by
  go_enter Try.func14, Try.ntmps14
  go_wp2
  go_ret
  exact ⟨rfl, rfl⟩
set_option maxHeartbeats 2000000 in
theorem addv (p : Value) (x : Nat) (e0 : Int) (w : World) (Q : World → Prop)
    (F : Hid (Calls Try.prog 14 #[p, .float .f64 x, .float .f64 4607182418800017408] w fun e w' => e = .returned (.int .i64 e0) ∧ Q w')) :
    Calls Try.prog 12 #[p, .float .f64 x] w fun e w' => e = .returned (.int .i64 e0) ∧ Q w' := by
  go_enter Try.func12, Try.ntmps12
  go_wp2_with fail
  refine F.out.mono ?_
  rintro e w' ⟨rfl, hQ⟩
  go_wp2
  go_ret
  exact ⟨rfl, hQ⟩
set_option maxHeartbeats 2000000 in
theorem merge_nil1 (p : Value) (w : World) : Calls Try.prog 16 #[.pointer none, p] w fun e w' => e = .returned (.int .i64 2) ∧ w' = w := by
  go_enter Try.func16, Try.ntmps16
  go_wp2
  go_ret
  exact ⟨rfl, rfl⟩
set_option maxHeartbeats 2000000 in
theorem merge_nil2 (g : Nat) (w : World) : Calls Try.prog 16 #[.pointer (some ⟨g, 0, none⟩), .pointer none] w fun e w' => e = .returned (.int .i64 2) ∧ w' = w := by
  go_enter Try.func16, Try.ntmps16
  go_wp2
  go_ret
  exact ⟨rfl, rfl⟩
set_option maxHeartbeats 2000000 in
theorem merge_long (g h : Nat) (c d : Int) (w : World) (h0 : w.cell? ⟨g, 0, none⟩ = some (.int .i64 c)) (h1 : w.cell? ⟨h, 0, none⟩ = some (.int .i64 d)) (c0 : 0 ≤ c) (c1 : c ≤ 1048576) (d0 : 0 ≤ d) (d1 : d ≤ 1048576) (hc : 1048576 < c + d) :
    Calls Try.prog 16 #[.pointer (some ⟨g, 0, none⟩), .pointer (some ⟨h, 0, none⟩)] w fun e w' => e = .returned (.int .i64 3) ∧ w' = w.drew := by
  go_enter Try.func16, Try.ntmps16
  go_wp2
  go_region
  go_wp2
  go_ret
  exact ⟨rfl, rfl⟩
end Go.Proofs.Ytgbnabpbheebjaa
