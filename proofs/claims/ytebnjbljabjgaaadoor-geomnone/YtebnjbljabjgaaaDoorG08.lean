/-
  Some of the texts of this proof, one behind the other.
-/
import Derived.Deep.Cut
import Derived.Test.YtebnjbljabjgaaaDoorG07
namespace Go.Proofs.YtebnjbljabjgaaaDoor
open Go.RowKit Tf Cu
attribute [local go_sem] run_bits run_from raw_feq raw_fne raw_flt raw_fgt run_neg run_store_float
theorem rawBits8 (x : Nat) (w : World) : Calls Tryd.prog 16 #[.float .f64 x] w fun e w' => e = .returned (.int .u64 ((x : Nat) : Int)) ∧ w' = w := by
  go_enter Tryd.func16, Tryd.ntmps16
  go_wp2
  go_ret
  exact ⟨rfl, rfl⟩
def thB8 (cl a0 a1 a2 a3 : Int) : Bool := decide (0 < cl) && decide (0 ≤ a1) && decide (a1 < 6) && decide (0 ≤ a2) && decide (a2 ≤ a0) && decide (0 ≤ a3) && decide (a3 ≤ a0)
end Go.Proofs.YtebnjbljabjgaaaDoor

namespace Go.Proofs.YtebnjbljabjgaaaDoor
open Go.RowKit Tf Cu
attribute [local go_sem] run_bits run_from raw_feq raw_fne raw_flt raw_fgt run_neg run_store_float
set_option maxRecDepth 100000 in
set_option maxHeartbeats 16000000 in
theorem none_fff (a0 a1 a2 a3 a4 a5 cl : Int) (l1 : fgt 0 0 = false) (w : World)
    (TH : Hid (thB8 cl a0 a1 a2 a3 = false)) (KH : Hid (inR a4 cl = false)) (VH : Hid ((inR a4 cl && inR a5 4) = false))
    (AWK : Hid (∀ v, Ab w v → Calls Tryd.prog 5 #[] v fun e w' => e = .returned (.bool true) ∧ Below v.heap.size v w'))
    (CE : Hid (∀ v, Calls Tryd.prog 13 #[.int .i64 a0] v fun e w' => e = .returned (.int .i64 cl) ∧ w' = v))
    (CO : Hid (∀ v, Calls Tryd.prog 14 #[.int .i64 a0, .int .i64 a1, .int .i64 a2, .int .i64 a3] v fun e w' => e = .returned (.tuple #[.agg #[.float .f64 0, .float .f64 0, .float .f64 0], .bool false]) ∧ Below v.heap.size v w'))
    (MI : Hid (∀ v, Calls Tryd.prog 10 #[.int .i64 a0, .int .i64 a4] v fun e w' => e = .returned (.tuple #[.agg #[.float .f64 0, .float .f64 0, .float .f64 0], .bool false]) ∧ Below v.heap.size v w'))
    (SM : Hid (∀ v, Calls Tryd.prog 15 #[.agg #[.float .f64 0, .float .f64 0, .float .f64 0], .agg #[.float .f64 0, .float .f64 0, .float .f64 0]] v fun e w' => e = .returned (.bool true) ∧ Below v.heap.size v w'))
    (LE : Hid (∀ v, Calls Tryd.prog 8 #[.int .i64 a0, .int .i64 a4, .int .i64 a5] v fun e w' => e = .returned (.float .f64 0) ∧ Below v.heap.size v w'))
    (GA : Hid (∀ v, Ab w v → Calls Tryd.prog 9 #[.int .i64 a0, .int .i64 a4, .int .i64 a5] v fun e w' => e = .returned (.float .f64 0) ∧ Below v.heap.size v w'))
    (AR : Hid (∀ v, Calls Tryd.prog 7 #[.int .i64 a0, .int .i64 a4] v fun e w' => e = .returned (.int .i64 0) ∧ Below v.heap.size v w'))
    (RB : Hid (∀ v, Calls Tryd.prog 16 #[.float .f64 0] v fun e w' => e = .returned (.int .u64 ((0 : Nat) : Int)) ∧ w' = v)) :
    Calls Tryd.prog 4 #[.agg #[.int .i64 a0, .int .i64 a1, .int .i64 a2, .int .i64 a3, .int .i64 a4, .int .i64 a5]] w fun e w' => e = .returned (.bool true) ∧ Below w.heap.size w w' := by
  obtain ⟨ga, hga⟩ : ∃ g, w.heap.size = g := ⟨_, rfl⟩
  have RO0 : Hid ((w.alloc (.cells #[.int .i64 a0, .int .i64 a1, .int .i64 a2, .int .i64 a3, .int .i64 a4, .int .i64 a5] 38)).heap[ga]? = some (.cells #[.int .i64 a0, .int .i64 a1, .int .i64 a2, .int .i64 a3, .int .i64 a4, .int .i64 a5] 38)) := by rw [← hga]; exact heap_alloc_new _ _
  have AW0 : Hid (Ab w (w.alloc (.cells #[.int .i64 a0, .int .i64 a1, .int .i64 a2, .int .i64 a3, .int .i64 a4, .int .i64 a5] 38))) := bl1 w _
  go_enter Tryd.func4, Tryd.ntmps4
  go_upto_region 1 with fail

  clear hga
  go_wp2_with fail
  refine Calls.mono (AWK.out _ AW0.out) ?_
  rintro e v1 ⟨rfl, b1⟩
  have AV1 : Hid (Ab w v1) := Ab.call AW0.out b1
  have RO1 : Hid (v1.heap[ga]? = some (.cells #[.int .i64 a0, .int .i64 a1, .int .i64 a2, .int .i64 a3, .int .i64 a4, .int .i64 a5] 38)) := Ab.heap b1 RO0.out
  have AW1 : Hid (Ab w v1) := AV1.out
  clear b1 AV1 RO0 AW0
  have xO0 := cell_of_row _ _ 0 _ _ _ RO1.out
  have xO1 := cell_of_row _ _ 1 _ _ _ RO1.out
  have xO2 := cell_of_row _ _ 2 _ _ _ RO1.out
  have xO3 := cell_of_row _ _ 3 _ _ _ RO1.out
  have xO4 := cell_of_row _ _ 4 _ _ _ RO1.out
  have xO5 := cell_of_row _ _ 5 _ _ _ RO1.out
  go_wp2_with fail
  refine Calls.mono (CE.out _) ?_
  rintro e vv ⟨rfl, rfl⟩
  clear xO0 xO1 xO2 xO3 xO4 xO5
  have xO0 := cell_of_row _ _ 0 _ _ _ RO1.out
  have xO1 := cell_of_row _ _ 1 _ _ _ RO1.out
  have xO2 := cell_of_row _ _ 2 _ _ _ RO1.out
  have xO3 := cell_of_row _ _ 3 _ _ _ RO1.out
  have xO4 := cell_of_row _ _ 4 _ _ _ RO1.out
  have xO5 := cell_of_row _ _ 5 _ _ _ RO1.out
  go_wp2_with fail
  refine Calls.mono (CO.out _) ?_
  rintro e v2 ⟨rfl, b2⟩
  clear xO0 xO1 xO2 xO3 xO4 xO5
  have AV2 : Hid (Ab w v2) := Ab.call AW1.out b2
  have RO2 : Hid ((v2.alloc (.cells #[.float .f64 0, .float .f64 0, .float .f64 0] 30)).heap[ga]? = some (.cells #[.int .i64 a0, .int .i64 a1, .int .i64 a2, .int .i64 a3, .int .i64 a4, .int .i64 a5] 38)) := Ab.heap (bl1 v2 (.cells #[.float .f64 0, .float .f64 0, .float .f64 0] 30)) (Ab.heap b2 RO1.out)
  have RV2 : Hid ((v2.alloc (.cells #[.float .f64 0, .float .f64 0, .float .f64 0] 30)).heap[v2.heap.size]? = some (.cells #[.float .f64 0, .float .f64 0, .float .f64 0] 30)) := heap_alloc_new _ _
  have AW2 : Hid (Ab w (v2.alloc (.cells #[.float .f64 0, .float .f64 0, .float .f64 0] 30))) := AV2.out.call (bl1 v2 (.cells #[.float .f64 0, .float .f64 0, .float .f64 0] 30))
  clear b2 AV2 RO1 AW1
  have xO0 := cell_of_row _ _ 0 _ _ _ RO2.out
  have xO1 := cell_of_row _ _ 1 _ _ _ RO2.out
  have xO2 := cell_of_row _ _ 2 _ _ _ RO2.out
  have xO3 := cell_of_row _ _ 3 _ _ _ RO2.out
  have xO4 := cell_of_row _ _ 4 _ _ _ RO2.out
  have xO5 := cell_of_row _ _ 5 _ _ _ RO2.out
  go_upto_region 6 with fail
  go_cut [7] from 14 (fun s wx => s = .bool false ∧ wx = (v2.alloc (.cells #[.float .f64 0, .float .f64 0, .float .f64 0] 30)))
  case first =>
    have th := TH.out
    unfold thB8 at th
    clear TH
    go_wp2
    all_goals go_meet
    all_goals (refine ⟨?_, rfl⟩)
    all_goals first | rfl | (exfalso; simp [*] at th; done) | (congr 1; simpa [*] using th)
  case rest =>
  obtain ⟨rfl, rfl⟩ := hcut
  clear xO0 xO1 xO2 xO3 xO4 xO5
  have xO0 := cell_of_row _ _ 0 _ _ _ RO2.out
  have xO1 := cell_of_row _ _ 1 _ _ _ RO2.out
  have xO2 := cell_of_row _ _ 2 _ _ _ RO2.out
  have xO3 := cell_of_row _ _ 3 _ _ _ RO2.out
  have xO4 := cell_of_row _ _ 4 _ _ _ RO2.out
  have xO5 := cell_of_row _ _ 5 _ _ _ RO2.out
  go_wp2_with fail
  refine Calls.mono (MI.out _) ?_
  rintro e v3 ⟨rfl, b3⟩
  clear xO0 xO1 xO2 xO3 xO4 xO5
  have AV3 : Hid (Ab w v3) := Ab.call AW2.out b3
  have RO3 : Hid ((v3.alloc (.cells #[.float .f64 0, .float .f64 0, .float .f64 0] 30)).heap[ga]? = some (.cells #[.int .i64 a0, .int .i64 a1, .int .i64 a2, .int .i64 a3, .int .i64 a4, .int .i64 a5] 38)) := Ab.heap (bl1 v3 (.cells #[.float .f64 0, .float .f64 0, .float .f64 0] 30)) (Ab.heap b3 RO2.out)
  have RV3 : Hid ((v3.alloc (.cells #[.float .f64 0, .float .f64 0, .float .f64 0] 30)).heap[v2.heap.size]? = some (.cells #[.float .f64 0, .float .f64 0, .float .f64 0] 30)) := Ab.heap (bl1 v3 (.cells #[.float .f64 0, .float .f64 0, .float .f64 0] 30)) (Ab.heap b3 RV2.out)
  have RM3 : Hid ((v3.alloc (.cells #[.float .f64 0, .float .f64 0, .float .f64 0] 30)).heap[v3.heap.size]? = some (.cells #[.float .f64 0, .float .f64 0, .float .f64 0] 30)) := heap_alloc_new _ _
  have AW3 : Hid (Ab w (v3.alloc (.cells #[.float .f64 0, .float .f64 0, .float .f64 0] 30))) := AV3.out.call (bl1 v3 (.cells #[.float .f64 0, .float .f64 0, .float .f64 0] 30))
  clear b3 AV3 RO2 RV2 AW2
  have xO0 := cell_of_row _ _ 0 _ _ _ RO3.out
  have xO1 := cell_of_row _ _ 1 _ _ _ RO3.out
  have xO2 := cell_of_row _ _ 2 _ _ _ RO3.out
  have xO3 := cell_of_row _ _ 3 _ _ _ RO3.out
  have xO4 := cell_of_row _ _ 4 _ _ _ RO3.out
  have xO5 := cell_of_row _ _ 5 _ _ _ RO3.out
  go_upto_region 8 with fail
  go_cut [10] from 14 (fun s wx => s = .bool false ∧ wx = (v3.alloc (.cells #[.float .f64 0, .float .f64 0, .float .f64 0] 30)))
  case first =>
    have th := KH.out
    unfold inR at th
    clear KH
    go_wp2
    all_goals go_meet
    all_goals (refine ⟨?_, rfl⟩)
    all_goals first | rfl | (exfalso; simp [*] at th; done) | (congr 1; simpa [*] using th)
  case rest =>
  obtain ⟨rfl, rfl⟩ := hcut
  clear xO0 xO1 xO2 xO3 xO4 xO5
  obtain ⟨-, xV0, xV1, xV2⟩ := rowfacts RV3.out
  go_wp2_with fail
  refine Calls.mono (SM.out _) ?_
  rintro e v4 ⟨rfl, b4⟩
  clear xV0 xV1 xV2
  have AV4 : Hid (Ab w v4) := Ab.call AW3.out b4
  have RO4 : Hid (v4.heap[ga]? = some (.cells #[.int .i64 a0, .int .i64 a1, .int .i64 a2, .int .i64 a3, .int .i64 a4, .int .i64 a5] 38)) := Ab.heap b4 RO3.out
  have RV4 : Hid (v4.heap[v2.heap.size]? = some (.cells #[.float .f64 0, .float .f64 0, .float .f64 0] 30)) := Ab.heap b4 RV3.out
  have RM4 : Hid (v4.heap[v3.heap.size]? = some (.cells #[.float .f64 0, .float .f64 0, .float .f64 0] 30)) := Ab.heap b4 RM3.out
  have AW4 : Hid (Ab w v4) := AV4.out
  clear b4 AV4 RO3 RV3 RM3 AW3
  obtain ⟨-, xM0, xM1, xM2⟩ := rowfacts RM4.out
  go_wp2_with fail
  refine Calls.mono (SM.out _) ?_
  rintro e v5 ⟨rfl, b5⟩
  clear xM0 xM1 xM2
  have AV5 : Hid (Ab w v5) := Ab.call AW4.out b5
  have RO5 : Hid (v5.heap[ga]? = some (.cells #[.int .i64 a0, .int .i64 a1, .int .i64 a2, .int .i64 a3, .int .i64 a4, .int .i64 a5] 38)) := Ab.heap b5 RO4.out
  have RV5 : Hid (v5.heap[v2.heap.size]? = some (.cells #[.float .f64 0, .float .f64 0, .float .f64 0] 30)) := Ab.heap b5 RV4.out
  have RM5 : Hid (v5.heap[v3.heap.size]? = some (.cells #[.float .f64 0, .float .f64 0, .float .f64 0] 30)) := Ab.heap b5 RM4.out
  have AW5 : Hid (Ab w v5) := AV5.out
  clear b5 AV5 RO4 RV4 RM4 AW4
  have xO0 := cell_of_row _ _ 0 _ _ _ RO5.out
  have xO1 := cell_of_row _ _ 1 _ _ _ RO5.out
  have xO2 := cell_of_row _ _ 2 _ _ _ RO5.out
  have xO3 := cell_of_row _ _ 3 _ _ _ RO5.out
  have xO4 := cell_of_row _ _ 4 _ _ _ RO5.out
  have xO5 := cell_of_row _ _ 5 _ _ _ RO5.out
  go_upto_region 11 with fail
  go_cut [11] from 14 (fun s wx => s = .bool false ∧ wx = v5)
  case first =>
    have th := VH.out
    rw [KH.out] at th; unfold inR at th
    clear VH
    go_wp2
    all_goals go_meet
    all_goals (refine ⟨?_, rfl⟩)
    all_goals first | rfl | (exfalso; simp [*] at th; done) | (congr 1; simpa [*] using th)
  case rest =>
  obtain ⟨rfl, rfl⟩ := hcut
  clear xO0 xO1 xO2 xO3 xO4 xO5
  have xO0 := cell_of_row _ _ 0 _ _ _ RO5.out
  have xO1 := cell_of_row _ _ 1 _ _ _ RO5.out
  have xO2 := cell_of_row _ _ 2 _ _ _ RO5.out
  have xO3 := cell_of_row _ _ 3 _ _ _ RO5.out
  have xO4 := cell_of_row _ _ 4 _ _ _ RO5.out
  have xO5 := cell_of_row _ _ 5 _ _ _ RO5.out
  go_wp2_with fail
  refine Calls.mono (LE.out _) ?_
  rintro e v6 ⟨rfl, b6⟩
  clear xO0 xO1 xO2 xO3 xO4 xO5
  have AV6 : Hid (Ab w v6) := Ab.call AW5.out b6
  have RO6 : Hid (v6.heap[ga]? = some (.cells #[.int .i64 a0, .int .i64 a1, .int .i64 a2, .int .i64 a3, .int .i64 a4, .int .i64 a5] 38)) := Ab.heap b6 RO5.out
  have RV6 : Hid (v6.heap[v2.heap.size]? = some (.cells #[.float .f64 0, .float .f64 0, .float .f64 0] 30)) := Ab.heap b6 RV5.out
  have RM6 : Hid (v6.heap[v3.heap.size]? = some (.cells #[.float .f64 0, .float .f64 0, .float .f64 0] 30)) := Ab.heap b6 RM5.out
  have AW6 : Hid (Ab w v6) := AV6.out
  clear b6 AV6 RO5 RV5 RM5 AW5
  have xO0 := cell_of_row _ _ 0 _ _ _ RO6.out
  have xO1 := cell_of_row _ _ 1 _ _ _ RO6.out
  have xO2 := cell_of_row _ _ 2 _ _ _ RO6.out
  have xO3 := cell_of_row _ _ 3 _ _ _ RO6.out
  have xO4 := cell_of_row _ _ 4 _ _ _ RO6.out
  have xO5 := cell_of_row _ _ 5 _ _ _ RO6.out
  go_wp2_with fail
  refine Calls.mono (GA.out _ AW6.out) ?_
  rintro e v7 ⟨rfl, b7⟩
  clear xO0 xO1 xO2 xO3 xO4 xO5
  have AV7 : Hid (Ab w v7) := Ab.call AW6.out b7
  have RO7 : Hid (v7.heap[ga]? = some (.cells #[.int .i64 a0, .int .i64 a1, .int .i64 a2, .int .i64 a3, .int .i64 a4, .int .i64 a5] 38)) := Ab.heap b7 RO6.out
  have RV7 : Hid (v7.heap[v2.heap.size]? = some (.cells #[.float .f64 0, .float .f64 0, .float .f64 0] 30)) := Ab.heap b7 RV6.out
  have RM7 : Hid (v7.heap[v3.heap.size]? = some (.cells #[.float .f64 0, .float .f64 0, .float .f64 0] 30)) := Ab.heap b7 RM6.out
  have AW7 : Hid (Ab w v7) := AV7.out
  clear b7 AV7 RO6 RV6 RM6 AW6
  have xO0 := cell_of_row _ _ 0 _ _ _ RO7.out
  have xO1 := cell_of_row _ _ 1 _ _ _ RO7.out
  have xO2 := cell_of_row _ _ 2 _ _ _ RO7.out
  have xO3 := cell_of_row _ _ 3 _ _ _ RO7.out
  have xO4 := cell_of_row _ _ 4 _ _ _ RO7.out
  have xO5 := cell_of_row _ _ 5 _ _ _ RO7.out
  go_wp2_with fail
  refine Calls.mono (AR.out _) ?_
  rintro e v8 ⟨rfl, b8⟩
  clear xO0 xO1 xO2 xO3 xO4 xO5
  have AV8 : Hid (Ab w v8) := Ab.call AW7.out b8
  have RO8 : Hid (v8.heap[ga]? = some (.cells #[.int .i64 a0, .int .i64 a1, .int .i64 a2, .int .i64 a3, .int .i64 a4, .int .i64 a5] 38)) := Ab.heap b8 RO7.out
  have RV8 : Hid (v8.heap[v2.heap.size]? = some (.cells #[.float .f64 0, .float .f64 0, .float .f64 0] 30)) := Ab.heap b8 RV7.out
  have RM8 : Hid (v8.heap[v3.heap.size]? = some (.cells #[.float .f64 0, .float .f64 0, .float .f64 0] 30)) := Ab.heap b8 RM7.out
  have AW8 : Hid (Ab w v8) := AV8.out
  clear b8 AV8 RO7 RV7 RM7 AW7
  go_wp2_with fail
  refine Calls.mono (RB.out _) ?_
  rintro e vv ⟨rfl, rfl⟩
  go_wp2_with fail
  refine Calls.mono (RB.out _) ?_
  rintro e vv ⟨rfl, rfl⟩
  go_wp2
  go_ret
  exact ⟨by first | rfl | (simp [*]; done), AW8.out⟩
end Go.Proofs.YtebnjbljabjgaaaDoor

namespace Go.Proofs.YtebnjbljabjgaaaDoor
open Go.RowKit Tf Cu
attribute [local go_sem] run_bits run_from raw_feq raw_fne raw_flt raw_fgt run_neg run_store_float
set_option maxRecDepth 100000 in
set_option maxHeartbeats 16000000 in
theorem none_ftf (a0 a1 a2 a3 a4 a5 cl : Int) (m1 m2 m3 : Nat) (A : Int) (hA : 0 < A) (l1 : fgt 0 0 = false) (w : World)
    (TH : Hid (thB8 cl a0 a1 a2 a3 = false)) (KH : Hid (inR a4 cl = true)) (VH : Hid ((inR a4 cl && inR a5 4) = false))
    (AWK : Hid (∀ v, Ab w v → Calls Tryd.prog 5 #[] v fun e w' => e = .returned (.bool true) ∧ Below v.heap.size v w'))
    (CE : Hid (∀ v, Calls Tryd.prog 13 #[.int .i64 a0] v fun e w' => e = .returned (.int .i64 cl) ∧ w' = v))
    (CO : Hid (∀ v, Calls Tryd.prog 14 #[.int .i64 a0, .int .i64 a1, .int .i64 a2, .int .i64 a3] v fun e w' => e = .returned (.tuple #[.agg #[.float .f64 0, .float .f64 0, .float .f64 0], .bool false]) ∧ Below v.heap.size v w'))
    (MI : Hid (∀ v, Calls Tryd.prog 10 #[.int .i64 a0, .int .i64 a4] v fun e w' => e = .returned (.tuple #[.agg #[.float .f64 m1, .float .f64 m2, .float .f64 m3], .bool true]) ∧ Below v.heap.size v w'))
    (SM : Hid (∀ v, Calls Tryd.prog 15 #[.agg #[.float .f64 0, .float .f64 0, .float .f64 0], .agg #[.float .f64 0, .float .f64 0, .float .f64 0]] v fun e w' => e = .returned (.bool true) ∧ Below v.heap.size v w'))
    (LE : Hid (∀ v, Calls Tryd.prog 8 #[.int .i64 a0, .int .i64 a4, .int .i64 a5] v fun e w' => e = .returned (.float .f64 0) ∧ Below v.heap.size v w'))
    (GA : Hid (∀ v, Ab w v → Calls Tryd.prog 9 #[.int .i64 a0, .int .i64 a4, .int .i64 a5] v fun e w' => e = .returned (.float .f64 0) ∧ Below v.heap.size v w'))
    (AR : Hid (∀ v, Calls Tryd.prog 7 #[.int .i64 a0, .int .i64 a4] v fun e w' => e = .returned (.int .i64 A) ∧ Below v.heap.size v w'))
    (RB : Hid (∀ v, Calls Tryd.prog 16 #[.float .f64 0] v fun e w' => e = .returned (.int .u64 ((0 : Nat) : Int)) ∧ w' = v)) :
    Calls Tryd.prog 4 #[.agg #[.int .i64 a0, .int .i64 a1, .int .i64 a2, .int .i64 a3, .int .i64 a4, .int .i64 a5]] w fun e w' => e = .returned (.bool true) ∧ Below w.heap.size w w' := by
  obtain ⟨ga, hga⟩ : ∃ g, w.heap.size = g := ⟨_, rfl⟩
  have RO0 : Hid ((w.alloc (.cells #[.int .i64 a0, .int .i64 a1, .int .i64 a2, .int .i64 a3, .int .i64 a4, .int .i64 a5] 38)).heap[ga]? = some (.cells #[.int .i64 a0, .int .i64 a1, .int .i64 a2, .int .i64 a3, .int .i64 a4, .int .i64 a5] 38)) := by rw [← hga]; exact heap_alloc_new _ _
  have AW0 : Hid (Ab w (w.alloc (.cells #[.int .i64 a0, .int .i64 a1, .int .i64 a2, .int .i64 a3, .int .i64 a4, .int .i64 a5] 38))) := bl1 w _
  go_enter Tryd.func4, Tryd.ntmps4
  go_upto_region 1 with fail

  clear hga
  go_wp2_with fail
  refine Calls.mono (AWK.out _ AW0.out) ?_
  rintro e v1 ⟨rfl, b1⟩
  have AV1 : Hid (Ab w v1) := Ab.call AW0.out b1
  have RO1 : Hid (v1.heap[ga]? = some (.cells #[.int .i64 a0, .int .i64 a1, .int .i64 a2, .int .i64 a3, .int .i64 a4, .int .i64 a5] 38)) := Ab.heap b1 RO0.out
  have AW1 : Hid (Ab w v1) := AV1.out
  clear b1 AV1 RO0 AW0
  have xO0 := cell_of_row _ _ 0 _ _ _ RO1.out
  have xO1 := cell_of_row _ _ 1 _ _ _ RO1.out
  have xO2 := cell_of_row _ _ 2 _ _ _ RO1.out
  have xO3 := cell_of_row _ _ 3 _ _ _ RO1.out
  have xO4 := cell_of_row _ _ 4 _ _ _ RO1.out
  have xO5 := cell_of_row _ _ 5 _ _ _ RO1.out
  go_wp2_with fail
  refine Calls.mono (CE.out _) ?_
  rintro e vv ⟨rfl, rfl⟩
  clear xO0 xO1 xO2 xO3 xO4 xO5
  have xO0 := cell_of_row _ _ 0 _ _ _ RO1.out
  have xO1 := cell_of_row _ _ 1 _ _ _ RO1.out
  have xO2 := cell_of_row _ _ 2 _ _ _ RO1.out
  have xO3 := cell_of_row _ _ 3 _ _ _ RO1.out
  have xO4 := cell_of_row _ _ 4 _ _ _ RO1.out
  have xO5 := cell_of_row _ _ 5 _ _ _ RO1.out
  go_wp2_with fail
  refine Calls.mono (CO.out _) ?_
  rintro e v2 ⟨rfl, b2⟩
  clear xO0 xO1 xO2 xO3 xO4 xO5
  have AV2 : Hid (Ab w v2) := Ab.call AW1.out b2
  have RO2 : Hid ((v2.alloc (.cells #[.float .f64 0, .float .f64 0, .float .f64 0] 30)).heap[ga]? = some (.cells #[.int .i64 a0, .int .i64 a1, .int .i64 a2, .int .i64 a3, .int .i64 a4, .int .i64 a5] 38)) := Ab.heap (bl1 v2 (.cells #[.float .f64 0, .float .f64 0, .float .f64 0] 30)) (Ab.heap b2 RO1.out)
  have RV2 : Hid ((v2.alloc (.cells #[.float .f64 0, .float .f64 0, .float .f64 0] 30)).heap[v2.heap.size]? = some (.cells #[.float .f64 0, .float .f64 0, .float .f64 0] 30)) := heap_alloc_new _ _
  have AW2 : Hid (Ab w (v2.alloc (.cells #[.float .f64 0, .float .f64 0, .float .f64 0] 30))) := AV2.out.call (bl1 v2 (.cells #[.float .f64 0, .float .f64 0, .float .f64 0] 30))
  clear b2 AV2 RO1 AW1
  have xO0 := cell_of_row _ _ 0 _ _ _ RO2.out
  have xO1 := cell_of_row _ _ 1 _ _ _ RO2.out
  have xO2 := cell_of_row _ _ 2 _ _ _ RO2.out
  have xO3 := cell_of_row _ _ 3 _ _ _ RO2.out
  have xO4 := cell_of_row _ _ 4 _ _ _ RO2.out
  have xO5 := cell_of_row _ _ 5 _ _ _ RO2.out
  go_upto_region 6 with fail
  go_cut [7] from 14 (fun s wx => s = .bool false ∧ wx = (v2.alloc (.cells #[.float .f64 0, .float .f64 0, .float .f64 0] 30)))
  case first =>
    have th := TH.out
    unfold thB8 at th
    clear TH
    go_wp2
    all_goals go_meet
    all_goals (refine ⟨?_, rfl⟩)
    all_goals first | rfl | (exfalso; simp [*] at th; done) | (congr 1; simpa [*] using th)
  case rest =>
  obtain ⟨rfl, rfl⟩ := hcut
  clear xO0 xO1 xO2 xO3 xO4 xO5
  have xO0 := cell_of_row _ _ 0 _ _ _ RO2.out
  have xO1 := cell_of_row _ _ 1 _ _ _ RO2.out
  have xO2 := cell_of_row _ _ 2 _ _ _ RO2.out
  have xO3 := cell_of_row _ _ 3 _ _ _ RO2.out
  have xO4 := cell_of_row _ _ 4 _ _ _ RO2.out
  have xO5 := cell_of_row _ _ 5 _ _ _ RO2.out
  go_wp2_with fail
  refine Calls.mono (MI.out _) ?_
  rintro e v3 ⟨rfl, b3⟩
  clear xO0 xO1 xO2 xO3 xO4 xO5
  have AV3 : Hid (Ab w v3) := Ab.call AW2.out b3
  have RO3 : Hid ((v3.alloc (.cells #[.float .f64 m1, .float .f64 m2, .float .f64 m3] 30)).heap[ga]? = some (.cells #[.int .i64 a0, .int .i64 a1, .int .i64 a2, .int .i64 a3, .int .i64 a4, .int .i64 a5] 38)) := Ab.heap (bl1 v3 (.cells #[.float .f64 m1, .float .f64 m2, .float .f64 m3] 30)) (Ab.heap b3 RO2.out)
  have RV3 : Hid ((v3.alloc (.cells #[.float .f64 m1, .float .f64 m2, .float .f64 m3] 30)).heap[v2.heap.size]? = some (.cells #[.float .f64 0, .float .f64 0, .float .f64 0] 30)) := Ab.heap (bl1 v3 (.cells #[.float .f64 m1, .float .f64 m2, .float .f64 m3] 30)) (Ab.heap b3 RV2.out)
  have RM3 : Hid ((v3.alloc (.cells #[.float .f64 m1, .float .f64 m2, .float .f64 m3] 30)).heap[v3.heap.size]? = some (.cells #[.float .f64 m1, .float .f64 m2, .float .f64 m3] 30)) := heap_alloc_new _ _
  have AW3 : Hid (Ab w (v3.alloc (.cells #[.float .f64 m1, .float .f64 m2, .float .f64 m3] 30))) := AV3.out.call (bl1 v3 (.cells #[.float .f64 m1, .float .f64 m2, .float .f64 m3] 30))
  clear b3 AV3 RO2 RV2 AW2
  have xO0 := cell_of_row _ _ 0 _ _ _ RO3.out
  have xO1 := cell_of_row _ _ 1 _ _ _ RO3.out
  have xO2 := cell_of_row _ _ 2 _ _ _ RO3.out
  have xO3 := cell_of_row _ _ 3 _ _ _ RO3.out
  have xO4 := cell_of_row _ _ 4 _ _ _ RO3.out
  have xO5 := cell_of_row _ _ 5 _ _ _ RO3.out
  go_upto_region 8 with fail
  go_cut [10] from 14 (fun s wx => s = .bool true ∧ wx = (v3.alloc (.cells #[.float .f64 m1, .float .f64 m2, .float .f64 m3] 30)))
  case first =>
    have th := KH.out
    unfold inR at th
    clear KH
    simp only [Bool.and_eq_true, decide_eq_true_eq] at th
    obtain ⟨t1, t2⟩ := th
    have th : true = true := rfl
    go_wp2
    all_goals go_meet
    all_goals (refine ⟨?_, rfl⟩)
    all_goals first | rfl | (exfalso; simp [*] at th; done) | (congr 1; simpa [*] using th)
  case rest =>
  obtain ⟨rfl, rfl⟩ := hcut
  clear xO0 xO1 xO2 xO3 xO4 xO5
  obtain ⟨-, xV0, xV1, xV2⟩ := rowfacts RV3.out
  go_wp2_with fail
  refine Calls.mono (SM.out _) ?_
  rintro e v4 ⟨rfl, b4⟩
  clear xV0 xV1 xV2
  have AV4 : Hid (Ab w v4) := Ab.call AW3.out b4
  have RO4 : Hid (v4.heap[ga]? = some (.cells #[.int .i64 a0, .int .i64 a1, .int .i64 a2, .int .i64 a3, .int .i64 a4, .int .i64 a5] 38)) := Ab.heap b4 RO3.out
  have RV4 : Hid (v4.heap[v2.heap.size]? = some (.cells #[.float .f64 0, .float .f64 0, .float .f64 0] 30)) := Ab.heap b4 RV3.out
  have RM4 : Hid (v4.heap[v3.heap.size]? = some (.cells #[.float .f64 m1, .float .f64 m2, .float .f64 m3] 30)) := Ab.heap b4 RM3.out
  have AW4 : Hid (Ab w v4) := AV4.out
  clear b4 AV4 RO3 RV3 RM3 AW3
  have xO0 := cell_of_row _ _ 0 _ _ _ RO4.out
  have xO1 := cell_of_row _ _ 1 _ _ _ RO4.out
  have xO2 := cell_of_row _ _ 2 _ _ _ RO4.out
  have xO3 := cell_of_row _ _ 3 _ _ _ RO4.out
  have xO4 := cell_of_row _ _ 4 _ _ _ RO4.out
  have xO5 := cell_of_row _ _ 5 _ _ _ RO4.out
  go_upto_region 11 with fail
  go_cut [11] from 14 (fun s wx => s = .bool false ∧ wx = v4)
  case first =>
    have th := VH.out
    rw [KH.out] at th; unfold inR at th
    clear VH
    go_wp2
    all_goals go_meet
    all_goals (refine ⟨?_, rfl⟩)
    all_goals first | rfl | (exfalso; simp [*] at th; done) | (congr 1; simpa [*] using th)
  case rest =>
  obtain ⟨rfl, rfl⟩ := hcut
  clear xO0 xO1 xO2 xO3 xO4 xO5
  have xO0 := cell_of_row _ _ 0 _ _ _ RO4.out
  have xO1 := cell_of_row _ _ 1 _ _ _ RO4.out
  have xO2 := cell_of_row _ _ 2 _ _ _ RO4.out
  have xO3 := cell_of_row _ _ 3 _ _ _ RO4.out
  have xO4 := cell_of_row _ _ 4 _ _ _ RO4.out
  have xO5 := cell_of_row _ _ 5 _ _ _ RO4.out
  go_wp2_with fail
  refine Calls.mono (LE.out _) ?_
  rintro e v5 ⟨rfl, b5⟩
  clear xO0 xO1 xO2 xO3 xO4 xO5
  have AV5 : Hid (Ab w v5) := Ab.call AW4.out b5
  have RO5 : Hid (v5.heap[ga]? = some (.cells #[.int .i64 a0, .int .i64 a1, .int .i64 a2, .int .i64 a3, .int .i64 a4, .int .i64 a5] 38)) := Ab.heap b5 RO4.out
  have RV5 : Hid (v5.heap[v2.heap.size]? = some (.cells #[.float .f64 0, .float .f64 0, .float .f64 0] 30)) := Ab.heap b5 RV4.out
  have RM5 : Hid (v5.heap[v3.heap.size]? = some (.cells #[.float .f64 m1, .float .f64 m2, .float .f64 m3] 30)) := Ab.heap b5 RM4.out
  have AW5 : Hid (Ab w v5) := AV5.out
  clear b5 AV5 RO4 RV4 RM4 AW4
  have xO0 := cell_of_row _ _ 0 _ _ _ RO5.out
  have xO1 := cell_of_row _ _ 1 _ _ _ RO5.out
  have xO2 := cell_of_row _ _ 2 _ _ _ RO5.out
  have xO3 := cell_of_row _ _ 3 _ _ _ RO5.out
  have xO4 := cell_of_row _ _ 4 _ _ _ RO5.out
  have xO5 := cell_of_row _ _ 5 _ _ _ RO5.out
  go_wp2_with fail
  refine Calls.mono (GA.out _ AW5.out) ?_
  rintro e v6 ⟨rfl, b6⟩
  clear xO0 xO1 xO2 xO3 xO4 xO5
  have AV6 : Hid (Ab w v6) := Ab.call AW5.out b6
  have RO6 : Hid (v6.heap[ga]? = some (.cells #[.int .i64 a0, .int .i64 a1, .int .i64 a2, .int .i64 a3, .int .i64 a4, .int .i64 a5] 38)) := Ab.heap b6 RO5.out
  have RV6 : Hid (v6.heap[v2.heap.size]? = some (.cells #[.float .f64 0, .float .f64 0, .float .f64 0] 30)) := Ab.heap b6 RV5.out
  have RM6 : Hid (v6.heap[v3.heap.size]? = some (.cells #[.float .f64 m1, .float .f64 m2, .float .f64 m3] 30)) := Ab.heap b6 RM5.out
  have AW6 : Hid (Ab w v6) := AV6.out
  clear b6 AV6 RO5 RV5 RM5 AW5
  have xO0 := cell_of_row _ _ 0 _ _ _ RO6.out
  have xO1 := cell_of_row _ _ 1 _ _ _ RO6.out
  have xO2 := cell_of_row _ _ 2 _ _ _ RO6.out
  have xO3 := cell_of_row _ _ 3 _ _ _ RO6.out
  have xO4 := cell_of_row _ _ 4 _ _ _ RO6.out
  have xO5 := cell_of_row _ _ 5 _ _ _ RO6.out
  go_wp2_with fail
  refine Calls.mono (AR.out _) ?_
  rintro e v7 ⟨rfl, b7⟩
  clear xO0 xO1 xO2 xO3 xO4 xO5
  have AV7 : Hid (Ab w v7) := Ab.call AW6.out b7
  have RO7 : Hid (v7.heap[ga]? = some (.cells #[.int .i64 a0, .int .i64 a1, .int .i64 a2, .int .i64 a3, .int .i64 a4, .int .i64 a5] 38)) := Ab.heap b7 RO6.out
  have RV7 : Hid (v7.heap[v2.heap.size]? = some (.cells #[.float .f64 0, .float .f64 0, .float .f64 0] 30)) := Ab.heap b7 RV6.out
  have RM7 : Hid (v7.heap[v3.heap.size]? = some (.cells #[.float .f64 m1, .float .f64 m2, .float .f64 m3] 30)) := Ab.heap b7 RM6.out
  have AW7 : Hid (Ab w v7) := AV7.out
  clear b7 AV7 RO6 RV6 RM6 AW6
  go_wp2_with fail
  refine Calls.mono (RB.out _) ?_
  rintro e vv ⟨rfl, rfl⟩
  go_wp2_with fail
  refine Calls.mono (RB.out _) ?_
  rintro e vv ⟨rfl, rfl⟩
  go_wp2
  go_ret
  exact ⟨by first | rfl | (simp [*]; done), AW7.out⟩
end Go.Proofs.YtebnjbljabjgaaaDoor

namespace Go.Proofs.YtebnjbljabjgaaaDoor
open Go.RowKit Tf Cu
attribute [local go_sem] run_bits run_from raw_feq raw_fne raw_flt raw_fgt run_neg run_store_float
set_option maxRecDepth 100000 in
set_option maxHeartbeats 16000000 in
theorem none_ftt (a0 a1 a2 a3 a4 a5 cl : Int) (m1 m2 m3 : Nat) (A : Int) (hA : 0 < A) (L G : Nat) (l1 : fgt L 0 = true) (g1 : fgt G 0 = true) (w : World)
    (TH : Hid (thB8 cl a0 a1 a2 a3 = false)) (KH : Hid (inR a4 cl = true)) (VH : Hid ((inR a4 cl && inR a5 4) = true))
    (AWK : Hid (∀ v, Ab w v → Calls Tryd.prog 5 #[] v fun e w' => e = .returned (.bool true) ∧ Below v.heap.size v w'))
    (CE : Hid (∀ v, Calls Tryd.prog 13 #[.int .i64 a0] v fun e w' => e = .returned (.int .i64 cl) ∧ w' = v))
    (CO : Hid (∀ v, Calls Tryd.prog 14 #[.int .i64 a0, .int .i64 a1, .int .i64 a2, .int .i64 a3] v fun e w' => e = .returned (.tuple #[.agg #[.float .f64 0, .float .f64 0, .float .f64 0], .bool false]) ∧ Below v.heap.size v w'))
    (MI : Hid (∀ v, Calls Tryd.prog 10 #[.int .i64 a0, .int .i64 a4] v fun e w' => e = .returned (.tuple #[.agg #[.float .f64 m1, .float .f64 m2, .float .f64 m3], .bool true]) ∧ Below v.heap.size v w'))
    (SM : Hid (∀ v, Calls Tryd.prog 15 #[.agg #[.float .f64 0, .float .f64 0, .float .f64 0], .agg #[.float .f64 0, .float .f64 0, .float .f64 0]] v fun e w' => e = .returned (.bool true) ∧ Below v.heap.size v w'))
    (LE : Hid (∀ v, Calls Tryd.prog 8 #[.int .i64 a0, .int .i64 a4, .int .i64 a5] v fun e w' => e = .returned (.float .f64 L) ∧ Below v.heap.size v w'))
    (GA : Hid (∀ v, Ab w v → Calls Tryd.prog 9 #[.int .i64 a0, .int .i64 a4, .int .i64 a5] v fun e w' => e = .returned (.float .f64 G) ∧ Below v.heap.size v w'))
    (AR : Hid (∀ v, Calls Tryd.prog 7 #[.int .i64 a0, .int .i64 a4] v fun e w' => e = .returned (.int .i64 A) ∧ Below v.heap.size v w'))
    (_RB : Hid (∀ v, Calls Tryd.prog 16 #[.float .f64 0] v fun e w' => e = .returned (.int .u64 ((0 : Nat) : Int)) ∧ w' = v)) :
    Calls Tryd.prog 4 #[.agg #[.int .i64 a0, .int .i64 a1, .int .i64 a2, .int .i64 a3, .int .i64 a4, .int .i64 a5]] w fun e w' => e = .returned (.bool true) ∧ Below w.heap.size w w' := by
  obtain ⟨ga, hga⟩ : ∃ g, w.heap.size = g := ⟨_, rfl⟩
  have RO0 : Hid ((w.alloc (.cells #[.int .i64 a0, .int .i64 a1, .int .i64 a2, .int .i64 a3, .int .i64 a4, .int .i64 a5] 38)).heap[ga]? = some (.cells #[.int .i64 a0, .int .i64 a1, .int .i64 a2, .int .i64 a3, .int .i64 a4, .int .i64 a5] 38)) := by rw [← hga]; exact heap_alloc_new _ _
  have AW0 : Hid (Ab w (w.alloc (.cells #[.int .i64 a0, .int .i64 a1, .int .i64 a2, .int .i64 a3, .int .i64 a4, .int .i64 a5] 38))) := bl1 w _
  go_enter Tryd.func4, Tryd.ntmps4
  go_upto_region 1 with fail

  clear hga
  go_wp2_with fail
  refine Calls.mono (AWK.out _ AW0.out) ?_
  rintro e v1 ⟨rfl, b1⟩
  have AV1 : Hid (Ab w v1) := Ab.call AW0.out b1
  have RO1 : Hid (v1.heap[ga]? = some (.cells #[.int .i64 a0, .int .i64 a1, .int .i64 a2, .int .i64 a3, .int .i64 a4, .int .i64 a5] 38)) := Ab.heap b1 RO0.out
  have AW1 : Hid (Ab w v1) := AV1.out
  clear b1 AV1 RO0 AW0
  have xO0 := cell_of_row _ _ 0 _ _ _ RO1.out
  have xO1 := cell_of_row _ _ 1 _ _ _ RO1.out
  have xO2 := cell_of_row _ _ 2 _ _ _ RO1.out
  have xO3 := cell_of_row _ _ 3 _ _ _ RO1.out
  have xO4 := cell_of_row _ _ 4 _ _ _ RO1.out
  have xO5 := cell_of_row _ _ 5 _ _ _ RO1.out
  go_wp2_with fail
  refine Calls.mono (CE.out _) ?_
  rintro e vv ⟨rfl, rfl⟩
  clear xO0 xO1 xO2 xO3 xO4 xO5
  have xO0 := cell_of_row _ _ 0 _ _ _ RO1.out
  have xO1 := cell_of_row _ _ 1 _ _ _ RO1.out
  have xO2 := cell_of_row _ _ 2 _ _ _ RO1.out
  have xO3 := cell_of_row _ _ 3 _ _ _ RO1.out
  have xO4 := cell_of_row _ _ 4 _ _ _ RO1.out
  have xO5 := cell_of_row _ _ 5 _ _ _ RO1.out
  go_wp2_with fail
  refine Calls.mono (CO.out _) ?_
  rintro e v2 ⟨rfl, b2⟩
  clear xO0 xO1 xO2 xO3 xO4 xO5
  have AV2 : Hid (Ab w v2) := Ab.call AW1.out b2
  have RO2 : Hid ((v2.alloc (.cells #[.float .f64 0, .float .f64 0, .float .f64 0] 30)).heap[ga]? = some (.cells #[.int .i64 a0, .int .i64 a1, .int .i64 a2, .int .i64 a3, .int .i64 a4, .int .i64 a5] 38)) := Ab.heap (bl1 v2 (.cells #[.float .f64 0, .float .f64 0, .float .f64 0] 30)) (Ab.heap b2 RO1.out)
  have RV2 : Hid ((v2.alloc (.cells #[.float .f64 0, .float .f64 0, .float .f64 0] 30)).heap[v2.heap.size]? = some (.cells #[.float .f64 0, .float .f64 0, .float .f64 0] 30)) := heap_alloc_new _ _
  have AW2 : Hid (Ab w (v2.alloc (.cells #[.float .f64 0, .float .f64 0, .float .f64 0] 30))) := AV2.out.call (bl1 v2 (.cells #[.float .f64 0, .float .f64 0, .float .f64 0] 30))
  clear b2 AV2 RO1 AW1
  have xO0 := cell_of_row _ _ 0 _ _ _ RO2.out
  have xO1 := cell_of_row _ _ 1 _ _ _ RO2.out
  have xO2 := cell_of_row _ _ 2 _ _ _ RO2.out
  have xO3 := cell_of_row _ _ 3 _ _ _ RO2.out
  have xO4 := cell_of_row _ _ 4 _ _ _ RO2.out
  have xO5 := cell_of_row _ _ 5 _ _ _ RO2.out
  go_upto_region 6 with fail
  go_cut [7] from 14 (fun s wx => s = .bool false ∧ wx = (v2.alloc (.cells #[.float .f64 0, .float .f64 0, .float .f64 0] 30)))
  case first =>
    have th := TH.out
    unfold thB8 at th
    clear TH
    go_wp2
    all_goals go_meet
    all_goals (refine ⟨?_, rfl⟩)
    all_goals first | rfl | (exfalso; simp [*] at th; done) | (congr 1; simpa [*] using th)
  case rest =>
  obtain ⟨rfl, rfl⟩ := hcut
  clear xO0 xO1 xO2 xO3 xO4 xO5
  have xO0 := cell_of_row _ _ 0 _ _ _ RO2.out
  have xO1 := cell_of_row _ _ 1 _ _ _ RO2.out
  have xO2 := cell_of_row _ _ 2 _ _ _ RO2.out
  have xO3 := cell_of_row _ _ 3 _ _ _ RO2.out
  have xO4 := cell_of_row _ _ 4 _ _ _ RO2.out
  have xO5 := cell_of_row _ _ 5 _ _ _ RO2.out
  go_wp2_with fail
  refine Calls.mono (MI.out _) ?_
  rintro e v3 ⟨rfl, b3⟩
  clear xO0 xO1 xO2 xO3 xO4 xO5
  have AV3 : Hid (Ab w v3) := Ab.call AW2.out b3
  have RO3 : Hid ((v3.alloc (.cells #[.float .f64 m1, .float .f64 m2, .float .f64 m3] 30)).heap[ga]? = some (.cells #[.int .i64 a0, .int .i64 a1, .int .i64 a2, .int .i64 a3, .int .i64 a4, .int .i64 a5] 38)) := Ab.heap (bl1 v3 (.cells #[.float .f64 m1, .float .f64 m2, .float .f64 m3] 30)) (Ab.heap b3 RO2.out)
  have RV3 : Hid ((v3.alloc (.cells #[.float .f64 m1, .float .f64 m2, .float .f64 m3] 30)).heap[v2.heap.size]? = some (.cells #[.float .f64 0, .float .f64 0, .float .f64 0] 30)) := Ab.heap (bl1 v3 (.cells #[.float .f64 m1, .float .f64 m2, .float .f64 m3] 30)) (Ab.heap b3 RV2.out)
  have RM3 : Hid ((v3.alloc (.cells #[.float .f64 m1, .float .f64 m2, .float .f64 m3] 30)).heap[v3.heap.size]? = some (.cells #[.float .f64 m1, .float .f64 m2, .float .f64 m3] 30)) := heap_alloc_new _ _
  have AW3 : Hid (Ab w (v3.alloc (.cells #[.float .f64 m1, .float .f64 m2, .float .f64 m3] 30))) := AV3.out.call (bl1 v3 (.cells #[.float .f64 m1, .float .f64 m2, .float .f64 m3] 30))
  clear b3 AV3 RO2 RV2 AW2
  have xO0 := cell_of_row _ _ 0 _ _ _ RO3.out
  have xO1 := cell_of_row _ _ 1 _ _ _ RO3.out
  have xO2 := cell_of_row _ _ 2 _ _ _ RO3.out
  have xO3 := cell_of_row _ _ 3 _ _ _ RO3.out
  have xO4 := cell_of_row _ _ 4 _ _ _ RO3.out
  have xO5 := cell_of_row _ _ 5 _ _ _ RO3.out
  go_upto_region 8 with fail
  go_cut [10] from 14 (fun s wx => s = .bool true ∧ wx = (v3.alloc (.cells #[.float .f64 m1, .float .f64 m2, .float .f64 m3] 30)))
  case first =>
    have th := KH.out
    unfold inR at th
    clear KH
    simp only [Bool.and_eq_true, decide_eq_true_eq] at th
    obtain ⟨t1, t2⟩ := th
    have th : true = true := rfl
    go_wp2
    all_goals go_meet
    all_goals (refine ⟨?_, rfl⟩)
    all_goals first | rfl | (exfalso; simp [*] at th; done) | (congr 1; simpa [*] using th)
  case rest =>
  obtain ⟨rfl, rfl⟩ := hcut
  clear xO0 xO1 xO2 xO3 xO4 xO5
  obtain ⟨-, xV0, xV1, xV2⟩ := rowfacts RV3.out
  go_wp2_with fail
  refine Calls.mono (SM.out _) ?_
  rintro e v4 ⟨rfl, b4⟩
  clear xV0 xV1 xV2
  have AV4 : Hid (Ab w v4) := Ab.call AW3.out b4
  have RO4 : Hid (v4.heap[ga]? = some (.cells #[.int .i64 a0, .int .i64 a1, .int .i64 a2, .int .i64 a3, .int .i64 a4, .int .i64 a5] 38)) := Ab.heap b4 RO3.out
  have RV4 : Hid (v4.heap[v2.heap.size]? = some (.cells #[.float .f64 0, .float .f64 0, .float .f64 0] 30)) := Ab.heap b4 RV3.out
  have RM4 : Hid (v4.heap[v3.heap.size]? = some (.cells #[.float .f64 m1, .float .f64 m2, .float .f64 m3] 30)) := Ab.heap b4 RM3.out
  have AW4 : Hid (Ab w v4) := AV4.out
  clear b4 AV4 RO3 RV3 RM3 AW3
  have xO0 := cell_of_row _ _ 0 _ _ _ RO4.out
  have xO1 := cell_of_row _ _ 1 _ _ _ RO4.out
  have xO2 := cell_of_row _ _ 2 _ _ _ RO4.out
  have xO3 := cell_of_row _ _ 3 _ _ _ RO4.out
  have xO4 := cell_of_row _ _ 4 _ _ _ RO4.out
  have xO5 := cell_of_row _ _ 5 _ _ _ RO4.out
  go_upto_region 11 with fail
  go_cut [11] from 14 (fun s wx => s = .bool true ∧ wx = v4)
  case first =>
    have th := VH.out
    rw [KH.out] at th; unfold inR at th
    clear VH
    simp only [Bool.and_eq_true, decide_eq_true_eq, Bool.true_and] at th
    obtain ⟨t1, t2⟩ := th
    have th : true = true := rfl
    go_wp2
    all_goals go_meet
    all_goals (refine ⟨?_, rfl⟩)
    all_goals first | rfl | (exfalso; simp [*] at th; done) | (congr 1; simpa [*] using th)
  case rest =>
  obtain ⟨rfl, rfl⟩ := hcut
  clear xO0 xO1 xO2 xO3 xO4 xO5
  have xO0 := cell_of_row _ _ 0 _ _ _ RO4.out
  have xO1 := cell_of_row _ _ 1 _ _ _ RO4.out
  have xO2 := cell_of_row _ _ 2 _ _ _ RO4.out
  have xO3 := cell_of_row _ _ 3 _ _ _ RO4.out
  have xO4 := cell_of_row _ _ 4 _ _ _ RO4.out
  have xO5 := cell_of_row _ _ 5 _ _ _ RO4.out
  go_wp2_with fail
  refine Calls.mono (LE.out _) ?_
  rintro e v5 ⟨rfl, b5⟩
  clear xO0 xO1 xO2 xO3 xO4 xO5
  have AV5 : Hid (Ab w v5) := Ab.call AW4.out b5
  have RO5 : Hid (v5.heap[ga]? = some (.cells #[.int .i64 a0, .int .i64 a1, .int .i64 a2, .int .i64 a3, .int .i64 a4, .int .i64 a5] 38)) := Ab.heap b5 RO4.out
  have RV5 : Hid (v5.heap[v2.heap.size]? = some (.cells #[.float .f64 0, .float .f64 0, .float .f64 0] 30)) := Ab.heap b5 RV4.out
  have RM5 : Hid (v5.heap[v3.heap.size]? = some (.cells #[.float .f64 m1, .float .f64 m2, .float .f64 m3] 30)) := Ab.heap b5 RM4.out
  have AW5 : Hid (Ab w v5) := AV5.out
  clear b5 AV5 RO4 RV4 RM4 AW4
  have xO0 := cell_of_row _ _ 0 _ _ _ RO5.out
  have xO1 := cell_of_row _ _ 1 _ _ _ RO5.out
  have xO2 := cell_of_row _ _ 2 _ _ _ RO5.out
  have xO3 := cell_of_row _ _ 3 _ _ _ RO5.out
  have xO4 := cell_of_row _ _ 4 _ _ _ RO5.out
  have xO5 := cell_of_row _ _ 5 _ _ _ RO5.out
  go_wp2_with fail
  refine Calls.mono (GA.out _ AW5.out) ?_
  rintro e v6 ⟨rfl, b6⟩
  clear xO0 xO1 xO2 xO3 xO4 xO5
  have AV6 : Hid (Ab w v6) := Ab.call AW5.out b6
  have RO6 : Hid (v6.heap[ga]? = some (.cells #[.int .i64 a0, .int .i64 a1, .int .i64 a2, .int .i64 a3, .int .i64 a4, .int .i64 a5] 38)) := Ab.heap b6 RO5.out
  have RV6 : Hid (v6.heap[v2.heap.size]? = some (.cells #[.float .f64 0, .float .f64 0, .float .f64 0] 30)) := Ab.heap b6 RV5.out
  have RM6 : Hid (v6.heap[v3.heap.size]? = some (.cells #[.float .f64 m1, .float .f64 m2, .float .f64 m3] 30)) := Ab.heap b6 RM5.out
  have AW6 : Hid (Ab w v6) := AV6.out
  clear b6 AV6 RO5 RV5 RM5 AW5
  have xO0 := cell_of_row _ _ 0 _ _ _ RO6.out
  have xO1 := cell_of_row _ _ 1 _ _ _ RO6.out
  have xO2 := cell_of_row _ _ 2 _ _ _ RO6.out
  have xO3 := cell_of_row _ _ 3 _ _ _ RO6.out
  have xO4 := cell_of_row _ _ 4 _ _ _ RO6.out
  have xO5 := cell_of_row _ _ 5 _ _ _ RO6.out
  go_wp2_with fail
  refine Calls.mono (AR.out _) ?_
  rintro e v7 ⟨rfl, b7⟩
  clear xO0 xO1 xO2 xO3 xO4 xO5
  have AV7 : Hid (Ab w v7) := Ab.call AW6.out b7
  have RO7 : Hid (v7.heap[ga]? = some (.cells #[.int .i64 a0, .int .i64 a1, .int .i64 a2, .int .i64 a3, .int .i64 a4, .int .i64 a5] 38)) := Ab.heap b7 RO6.out
  have RV7 : Hid (v7.heap[v2.heap.size]? = some (.cells #[.float .f64 0, .float .f64 0, .float .f64 0] 30)) := Ab.heap b7 RV6.out
  have RM7 : Hid (v7.heap[v3.heap.size]? = some (.cells #[.float .f64 m1, .float .f64 m2, .float .f64 m3] 30)) := Ab.heap b7 RM6.out
  have AW7 : Hid (Ab w v7) := AV7.out
  clear b7 AV7 RO6 RV6 RM6 AW6
  go_wp2
  go_ret
  exact ⟨by first | rfl | (simp [*]; done), AW7.out⟩
end Go.Proofs.YtebnjbljabjgaaaDoor
