/-
  Some of the texts of this proof, one behind the other.
-/
import Derived.Deep.Draws
import Derived.Test.YtbibhgikmnpbfaaGreatDoorRb05
namespace Go.Proofs.YtbibhgikmnpbfaaGreatDoor
open Go.RowKit Tf
attribute [local go_sem] run_bits run_from raw_feq raw_fne raw_flt raw_fgt run_neg run_store_float
theorem rcanon_any (x : Nat) (w : World) : Calls Tryz.prog 81 #[.float .f64 x] w fun e w' => e = .returned (.float .f64 (canonB x)) ∧ w' = w := refCanon_any x w
set_option maxHeartbeats 2000000 in
theorem made_at (x y z a b c : Nat) (w : World) (hx : IsC x a) (hy : IsC y b) (hz : IsC z c) :
    Calls Tryz.prog 147 #[.float .f64 x, .float .f64 y, .float .f64 z] w fun e w' => e = .returned (.agg #[.float .f64 a, .float .f64 b, .float .f64 c]) ∧ Below w.heap.size w w' := by
  obtain ⟨_, x2⟩ := hx
  obtain ⟨_, y2⟩ := hy
  obtain ⟨_, z2⟩ := hz
  have CX : Hid (∀ w, Calls Tryz.prog 81 #[.float .f64 x] w fun e w' => e = .returned (.float .f64 a) ∧ w' = w) := fun w => by rw [← x2]; exact rcanon_any x w
  have CY : Hid (∀ w, Calls Tryz.prog 81 #[.float .f64 y] w fun e w' => e = .returned (.float .f64 b) ∧ w' = w) := fun w => by rw [← y2]; exact rcanon_any y w
  have CZ : Hid (∀ w, Calls Tryz.prog 81 #[.float .f64 z] w fun e w' => e = .returned (.float .f64 c) ∧ w' = w) := fun w => by rw [← z2]; exact rcanon_any z w
  have A0 := hid (bl1 w (.cells #[.float .f64 0, .float .f64 0, .float .f64 0] 131))
  have r0 := heap_alloc_new w (.cells #[.float .f64 0, .float .f64 0, .float .f64 0] 131)
  have R0 := hid r0
  clear x2 y2 z2 r0
  go_enter Tryz.func147, Tryz.ntmps147
  go_wp2_with fail
  refine (CX.out _).mono ?_
  rintro e W ⟨rfl, hW⟩
  have r1 : W.heap[w.heap.size]? = some (.cells #[.float .f64 0, .float .f64 0, .float .f64 0] 131) := by rw [hW]; exact R0.out
  have A1 : Hid (Ab w W) := by rw [hW]; exact A0.out
  obtain ⟨⟨o0, o1, o2⟩, o3, o4, o5⟩ := rowfacts r1
  have R1 := hid r1
  clear hW r1 A0 R0
  go_wp2_with fail
  refine (CY.out _).mono ?_
  rintro e W ⟨rfl, rfl⟩
  go_wp2_with fail
  refine (CZ.out _).mono ?_
  rintro e W ⟨rfl, rfl⟩
  go_wp2
  refine bodyPost_ret ?_ rfl ⟨rfl, ?_⟩
  · exact results_cell_row Tryz.results147 _ _ w.heap.size _ _ (0, 0) _ rfl (row3 R1.out) Tryz.underlying131 rfl (by kernel_rfl)
  · exact ((Ab.setk A1.out (Nat.le_refl _) _).setk (Nat.le_refl _) _).setk (Nat.le_refl _) _
set_option maxHeartbeats 1000000 in
theorem less_at (x v y u : Nat) (w : World) (hx : x < 18446744073709551616) (hv : v < 18446744073709551616) (hy : y < 18446744073709551616) (hu : u < 18446744073709551616) :
    Calls Tryz.prog 148 #[.float .f64 x, .float .f64 v, .float .f64 y, .float .f64 u] w fun e w' => ∃ r n, e = .returned (.float .f64 r) ∧ w' = w.drewN n ∧ IsC r (sbB (mlB x v) (mlB y u)) := by
  obtain ⟨p, n, hp, pq⟩ := mul_any (P := Tryz.prog) w x _ v _ (IsQ.self hx) (IsQ.self hv)
  obtain ⟨q, m, hq, qq⟩ := mul_any (P := Tryz.prog) (w.drewN n) y _ u _ (IsQ.self hy) (IsQ.self hu)
  obtain ⟨r, l, hr, rr⟩ := sub_any (P := Tryz.prog) (w.drewN (n + m)) p _ q _ pq qq
  rw [World.drewN_drewN] at hq hr
  have HQ : Hid (IsC r (sbB (mlB x v) (mlB y u))) := by
    have e1 : mlB x v = mlB (qB x) (qB v) := by unfold mlB; rw [mul_ql, mul_qr]
    have e2 : mlB y u = mlB (qB y) (qB u) := by unfold mlB; rw [mul_ql, mul_qr]
    rw [e1, e2]; exact rr
  clear pq qq rr hx hy hu hv
  go_enter Tryz.func148, Tryz.ntmps148
  go_wp2
  go_ret
  exact ⟨r, _, rfl, rfl, HQ.out⟩
set_option maxHeartbeats 1000000 in
theorem rsqrt_at (x : Nat) (w : World) :
    Calls Tryz.prog 145 #[.float .f64 x] w fun e w' => ∃ r n, e = .returned (.float .f64 r) ∧ w' = w.drewN n ∧ IsC r (rtB x) := by
  have S := hid (fun w => sqrt_at x w)
  go_enter Tryz.func145, Tryz.ntmps145
  go_wp2_with fail
  refine (S.out _).mono ?_
  rintro e w1 ⟨r, n, rfl, rfl, hq⟩
  have HQ := hid hq
  clear hq
  go_wp2
  go_ret
  exact ⟨r, n, rfl, rfl, HQ.out⟩
set_option maxHeartbeats 4000000 in
theorem rminus_at (x y z u v t : Nat) (w : World) (hx : x < 18446744073709551616) (hy : y < 18446744073709551616) (hz : z < 18446744073709551616) (hu : u < 18446744073709551616) (hv : v < 18446744073709551616) (ht : t < 18446744073709551616) :
    Calls Tryz.prog 107 #[.agg #[.float .f64 x, .float .f64 y, .float .f64 z], .agg #[.float .f64 u, .float .f64 v, .float .f64 t]] w fun e w' => e = .returned (.agg #[.float .f64 (sbB x u), .float .f64 (sbB y v), .float .f64 (sbB z t)]) ∧ Below w.heap.size w w' := by
  obtain ⟨r1, n1, k1, q1⟩ := sub_any (P := Tryz.prog) (((w.alloc (.cells #[.float .f64 x, .float .f64 y, .float .f64 z] 131)).alloc (.cells #[.float .f64 u, .float .f64 v, .float .f64 t] 131)).alloc (.cells #[.float .f64 0, .float .f64 0, .float .f64 0] 131)) x _ u _ (IsQ.self hx) (IsQ.self hu)
  obtain ⟨r2, n2, k2, q2⟩ := sub_any (P := Tryz.prog) ((((w.alloc (.cells #[.float .f64 x, .float .f64 y, .float .f64 z] 131)).alloc (.cells #[.float .f64 u, .float .f64 v, .float .f64 t] 131)).alloc (.cells #[.float .f64 0, .float .f64 0, .float .f64 0] 131)).drewN n1) y _ v _ (IsQ.self hy) (IsQ.self hv)
  obtain ⟨r3, n3, k3, q3⟩ := sub_any (P := Tryz.prog) ((((w.alloc (.cells #[.float .f64 x, .float .f64 y, .float .f64 z] 131)).alloc (.cells #[.float .f64 u, .float .f64 v, .float .f64 t] 131)).alloc (.cells #[.float .f64 0, .float .f64 0, .float .f64 0] 131)).drewN (n1 + n2)) z _ t _ (IsQ.self hz) (IsQ.self ht)
  rw [World.drewN_drewN] at k2 k3
  rw [sbB_q hu] at q1
  rw [sbB_q hv] at q2
  rw [sbB_q ht] at q3
  have CN := hid (fun w => made_at r1 r2 r3 _ _ _ w q1 q2 q3)
  have A0 := hid (bl3 w (.cells #[.float .f64 x, .float .f64 y, .float .f64 z] 131) (.cells #[.float .f64 u, .float .f64 v, .float .f64 t] 131) (.cells #[.float .f64 0, .float .f64 0, .float .f64 0] 131))
  have R0 := hid (W3rows w (.cells #[.float .f64 x, .float .f64 y, .float .f64 z] 131) (.cells #[.float .f64 u, .float .f64 v, .float .f64 t] 131) (.cells #[.float .f64 0, .float .f64 0, .float .f64 0] 131))
  clear q1 q2 q3 hx hy hz hu hv ht
  go_enter Tryz.func107, Tryz.ntmps107
  go_wp2_with fail
  refine (CN.out _).mono ?_
  rintro e w4 ⟨rfl, b4⟩
  have A4 : Hid (Ab w w4) := Ab.call (Ab.drewN A0.out _) b4
  have r0 : w4.heap[w.heap.size + 1 + 1]? = some (.cells #[.float .f64 0, .float .f64 0, .float .f64 0] 131) := Ab.heap b4 R0.out.2.2
  obtain ⟨⟨o0, o1, o2⟩, o3, o4, o5⟩ := rowfacts r0
  have R4 := hid r0
  clear r0 b4 A0 R0 k1 k2 k3
  go_wp2
  refine bodyPost_ret ?_ rfl ⟨rfl, ?_⟩
  · exact results_cell_row Tryz.results107 _ _ (w.heap.size + 1 + 1) _ _ (0, 0) _ rfl (row3 R4.out) Tryz.underlying131 rfl (by kernel_rfl)
  · exact ((Ab.setk A4.out (by omega) _).setk (by omega) _).setk (by omega) _
set_option maxHeartbeats 8000000 in
theorem rcross_at (x y z u v t : Nat) (w : World) (hx : x < 18446744073709551616) (hy : y < 18446744073709551616) (hz : z < 18446744073709551616) (hu : u < 18446744073709551616) (hv : v < 18446744073709551616) (ht : t < 18446744073709551616) :
    Calls Tryz.prog 106 #[.agg #[.float .f64 x, .float .f64 y, .float .f64 z], .agg #[.float .f64 u, .float .f64 v, .float .f64 t]] w fun e w' => e = .returned (.agg #[.float .f64 (sbB (mlB y t) (mlB z v)), .float .f64 (sbB (mlB z u) (mlB x t)), .float .f64 (sbB (mlB x v) (mlB y u))]) ∧ Below w.heap.size w w' := by
  obtain ⟨c0, hc0⟩ : ∃ c, sbB (mlB y t) (mlB z v) = c := ⟨_, rfl⟩
  obtain ⟨c1, hc1⟩ : ∃ c, sbB (mlB z u) (mlB x t) = c := ⟨_, rfl⟩
  obtain ⟨c2, hc2⟩ : ∃ c, sbB (mlB x v) (mlB y u) = c := ⟨_, rfl⟩
  rw [hc0, hc1, hc2]
  have T0 : Hid (∀ u0, Calls Tryz.prog 148 #[.float .f64 y, .float .f64 t, .float .f64 z, .float .f64 v] u0 fun e w' => ∃ r n, e = .returned (.float .f64 r) ∧ w' = u0.drewN n ∧ Hid (IsC r c0)) := fun u0 => by rw [← hc0]; exact less_at y t z v u0 hy ht hz hv
  have T1 : Hid (∀ u0, Calls Tryz.prog 148 #[.float .f64 z, .float .f64 u, .float .f64 x, .float .f64 t] u0 fun e w' => ∃ r n, e = .returned (.float .f64 r) ∧ w' = u0.drewN n ∧ Hid (IsC r c1)) := fun u0 => by rw [← hc1]; exact less_at z u x t u0 hz hu hx ht
  have T2 : Hid (∀ u0, Calls Tryz.prog 148 #[.float .f64 x, .float .f64 v, .float .f64 y, .float .f64 u] u0 fun e w' => ∃ r n, e = .returned (.float .f64 r) ∧ w' = u0.drewN n ∧ Hid (IsC r c2)) := fun u0 => by rw [← hc2]; exact less_at x v y u u0 hx hv hy hu
  have CN := hid (fun r1 r2 r3 w (q1 : IsC r1 c0) (q2 : IsC r2 c1) (q3 : IsC r3 c2) => made_at r1 r2 r3 _ _ _ w q1 q2 q3)
  have A0 := hid (bl3 w (.cells #[.float .f64 x, .float .f64 y, .float .f64 z] 131) (.cells #[.float .f64 u, .float .f64 v, .float .f64 t] 131) (.cells #[.float .f64 0, .float .f64 0, .float .f64 0] 131))
  have R0 := hid (W3rows w (.cells #[.float .f64 x, .float .f64 y, .float .f64 z] 131) (.cells #[.float .f64 u, .float .f64 v, .float .f64 t] 131) (.cells #[.float .f64 0, .float .f64 0, .float .f64 0] 131))
  clear hx hy hz hu hv ht hc0 hc1 hc2
  go_enter Tryz.func106, Tryz.ntmps106
  go_upto_region 1 with fail
  generalize hW : World.alloc _ _ = W
  have AW : Hid (Ab w W) := by rw [← hW]; exact A0.out
  have ra : W.heap[w.heap.size]? = some (.cells #[.float .f64 x, .float .f64 y, .float .f64 z] 131) := by rw [← hW]; exact R0.out.1
  have rb : W.heap[w.heap.size + 1]? = some (.cells #[.float .f64 u, .float .f64 v, .float .f64 t] 131) := by rw [← hW]; exact R0.out.2.1
  have rc : W.heap[w.heap.size + 1 + 1]? = some (.cells #[.float .f64 0, .float .f64 0, .float .f64 0] 131) := by rw [← hW]; exact R0.out.2.2
  have KS : Hid (∀ w', Abx W (w.heap.size + 1 + 1) 3 131 w' → Abx W (w.heap.size + 1 + 1) 3 131 w' ∧ w'.cell? ⟨w.heap.size, 0, none⟩ = some (.float .f64 x) ∧ w'.cell? ⟨w.heap.size, 1, none⟩ = some (.float .f64 y) ∧ w'.cell? ⟨w.heap.size, 2, none⟩ = some (.float .f64 z) ∧ w'.cell? ⟨w.heap.size + 1, 0, none⟩ = some (.float .f64 u) ∧ w'.cell? ⟨w.heap.size + 1, 1, none⟩ = some (.float .f64 v) ∧ w'.cell? ⟨w.heap.size + 1, 2, none⟩ = some (.float .f64 t) ∧ w'.frozen? ⟨w.heap.size + 1 + 1, 0, none⟩ = false ∧ w'.frozen? ⟨w.heap.size + 1 + 1, 1, none⟩ = false ∧ w'.frozen? ⟨w.heap.size + 1 + 1, 2, none⟩ = false ∧ w'.cell? ⟨w.heap.size + 1 + 1, 0, none⟩ = some (rv w' (w.heap.size + 1 + 1) 0) ∧ w'.cell? ⟨w.heap.size + 1 + 1, 1, none⟩ = some (rv w' (w.heap.size + 1 + 1) 1) ∧ w'.cell? ⟨w.heap.size + 1 + 1, 2, none⟩ = some (rv w' (w.heap.size + 1 + 1) 2)) := by
    intro w' hw
    obtain ⟨-, p3, p4, p5⟩ := rowfacts (hw.heap (by omega) ra)
    obtain ⟨-, p6, p7, p8⟩ := rowfacts (hw.heap (by omega) rb)
    exact ⟨hw, p3, p4, p5, p6, p7, p8, hw.free 0, hw.free 1, hw.free 2, hw.some (by omega), hw.some (by omega), hw.some (by omega)⟩
  have A1 : Abx W (w.heap.size + 1 + 1) 3 131 W := (Ab.refl W).x rfl rc
  clear ra rb rc hW A0 R0
  go_region_held3 (fun w' => Abx W (w.heap.size + 1 + 1) 3 131 w' ∧ w'.cell? ⟨w.heap.size, 0, none⟩ = some (.float .f64 x) ∧ w'.cell? ⟨w.heap.size, 1, none⟩ = some (.float .f64 y) ∧ w'.cell? ⟨w.heap.size, 2, none⟩ = some (.float .f64 z) ∧ w'.cell? ⟨w.heap.size + 1, 0, none⟩ = some (.float .f64 u) ∧ w'.cell? ⟨w.heap.size + 1, 1, none⟩ = some (.float .f64 v) ∧ w'.cell? ⟨w.heap.size + 1, 2, none⟩ = some (.float .f64 t) ∧ w'.frozen? ⟨w.heap.size + 1 + 1, 0, none⟩ = false ∧ w'.frozen? ⟨w.heap.size + 1 + 1, 1, none⟩ = false ∧ w'.frozen? ⟨w.heap.size + 1 + 1, 2, none⟩ = false ∧ w'.cell? ⟨w.heap.size + 1 + 1, 0, none⟩ = some (rv w' (w.heap.size + 1 + 1) 0) ∧ w'.cell? ⟨w.heap.size + 1 + 1, 1, none⟩ = some (rv w' (w.heap.size + 1 + 1) 1) ∧ w'.cell? ⟨w.heap.size + 1 + 1, 2, none⟩ = some (rv w' (w.heap.size + 1 + 1) 2)) ((refine KS.out _ ?_; (with_reducible (repeat (first | assumption | apply Abx.drew | apply Abx.drewN | apply Abx.set | (refine Abx.call ?_ (by assumption))))); done)) (first
    | (go_at_call 148; have hh := q2.out; refine (T2.out _).mono ?_; rintro e w3 ⟨r3, n3, rfl, rfl, q3⟩)
    | (go_at_call 148; have hh := q1.out; refine (T1.out _).mono ?_; rintro e w2 ⟨r2, n2, rfl, rfl, q2⟩)
    | (go_at_call 148; refine (T0.out _).mono ?_; rintro e w1 ⟨r1, n1, rfl, rfl, q1⟩)
    | (go_at_call 147; refine (CN.out _ _ _ _ q1.out q2.out q3.out).mono ?_; rintro e w4 ⟨rfl, b4⟩))
  have A2 : Abx W (w.heap.size + 1 + 1) 3 131 w4 := Abx.call (A1.drewN _) b4
  clear KS A1 b4
  go_wp2
  refine bodyPost_ret ?_ rfl ⟨rfl, ?_⟩
  · exact results_cell_row Tryz.results106 _ _ (w.heap.size + 1 + 1) _ _ (0, 0) _ rfl (set3 A2) Tryz.underlying131 rfl (by kernel_rfl)
  · exact (((A2.set 0 _).set 1 _).set 2 _).ab AW.out (by omega)
set_option maxHeartbeats 4000000 in
theorem rlength_at (x y z : Nat) (w : World) (hx : x < 18446744073709551616) (hy : y < 18446744073709551616) (hz : z < 18446744073709551616) :
    Calls Tryz.prog 105 #[.agg #[.float .f64 x, .float .f64 y, .float .f64 z]] w fun e w' => e = .returned (.float .f64 (lnB x y z)) ∧ Below w.heap.size w w' := by
  obtain ⟨T, hT⟩ : ∃ T, thB (sqB x) (sqB y) (sqB z) = T := ⟨_, rfl⟩
  obtain ⟨l, hl⟩ : ∃ l, lnB x y z = l := ⟨_, rfl⟩
  have hlT : rtB T = l := by rw [← hT, ← hl]; rfl
  rw [hl]
  obtain ⟨r1, n1, k1, q1⟩ := mul_any (P := Tryz.prog) (w.alloc (.cells #[.float .f64 x, .float .f64 y, .float .f64 z] 131)) x _ x _ (IsQ.self hx) (IsQ.self hx)
  obtain ⟨r2, n2, k2, q2⟩ := mul_any (P := Tryz.prog) ((w.alloc (.cells #[.float .f64 x, .float .f64 y, .float .f64 z] 131)).drewN n1) y _ y _ (IsQ.self hy) (IsQ.self hy)
  obtain ⟨r3, n3, k3, q3⟩ := mul_any (P := Tryz.prog) ((w.alloc (.cells #[.float .f64 x, .float .f64 y, .float .f64 z] 131)).drewN (n1 + n2)) z _ z _ (IsQ.self hz) (IsQ.self hz)
  rw [World.drewN_drewN] at k2 k3
  have e1 : IsQ r1 (sqB x) := by unfold sqB mlB; rw [← mul_ql, ← mul_qr]; exact q1
  have e2 : IsQ r2 (sqB y) := by unfold sqB mlB; rw [← mul_ql, ← mul_qr]; exact q2
  have e3 : IsQ r3 (sqB z) := by unfold sqB mlB; rw [← mul_ql, ← mul_qr]; exact q3
  have TH : Hid (∀ u0, Calls Tryz.prog 146 #[.float .f64 r1, .float .f64 r2, .float .f64 r3] u0 fun e w' => e = .returned (.float .f64 T) ∧ ∃ k, w' = u0.drewN k) := fun u0 => by
    rw [← hT, ← e1.2, ← e2.2, ← e3.2, ← thB_q]
    exact rthree_at r1 r2 r3 u0 e1.1 e2.1 e3.1
  have SQ : Hid (∀ u0, Calls Tryz.prog 145 #[.float .f64 T] u0 fun e w' => ∃ r n, e = .returned (.float .f64 r) ∧ w' = u0.drewN n ∧ Hid (IsC r l)) := fun u0 => by rw [← hlT]; exact rsqrt_at T u0
  have CN : Hid (∀ r u0, IsC r l → Calls Tryz.prog 81 #[.float .f64 r] u0 fun e w' => e = .returned (.float .f64 l) ∧ w' = u0) := fun r u0 q => by rw [← q.2]; exact rcanon_any r u0
  have A0 := hid (bl1 w (.cells #[.float .f64 x, .float .f64 y, .float .f64 z] 131))
  clear hx hy hz hT hl hlT q1 q2 q3 e1 e2 e3
  go_enter Tryz.func105, Tryz.ntmps105
  go_wp2_with fail
  refine (TH.out _).mono ?_
  rintro e w1 ⟨rfl, n4, rfl⟩
  go_wp2_with fail
  refine (SQ.out _).mono ?_
  rintro e w1 ⟨r5, n5, rfl, rfl, q5⟩
  go_wp2_with fail
  refine (CN.out _ _ q5.out).mono ?_
  rintro e w1 ⟨rfl, rfl⟩
  go_wp2
  go_ret
  exact ⟨rfl, Ab.drewN A0.out _⟩
end Go.Proofs.YtbibhgikmnpbfaaGreatDoor

namespace Go.Proofs.YtbibhgikmnpbfaaGreatDoor
open Go.RowKit Tf
attribute [local go_sem] run_bits run_from raw_feq raw_fne raw_flt raw_fgt run_neg run_store_float
set_option maxHeartbeats 1000000 in
set_option maxRecDepth 100000 in
theorem refClass_at (x m : Nat) (c : Int) (w : World) (hm : Hid (mg x = m)) (hc : Hid ((if m = 0 then 0 else if m < 4503599627370496 then 1 else if m < 9218868437227405312 then 2 else if m = 9218868437227405312 then 3 else 4) = c)) :
    Calls Tryz.prog 174 #[.float .f64 x] w fun e w' => e = .returned (.int .i64 c) ∧ w' = w := by
  by_cases c0 : m = 0
  · subst c0
    go_enter Tryz.func174, Tryz.ntmps174
    go_wp2_with fail
    refine (refMag_at x _ _ hm).mono ?_
    rintro e w' ⟨rfl, rfl⟩
    go_wp2
    go_ret
    exact ⟨ret_int hc.out, rfl⟩
  · have e0 : ((m : Int) == 0) = false := by simp; omega
    by_cases c1 : m < 4503599627370496
    · have h := hc.out
      rw [if_neg c0, if_pos c1] at h
      subst h
      have e1 : decide ((m : Int) < 4503599627370496) = true := by simp; omega
      clear hc c0 c1
      go_enter Tryz.func174, Tryz.ntmps174
      go_wp2_with fail
      refine (refMag_at x _ _ hm).mono ?_
      rintro e w' ⟨rfl, rfl⟩
      go_wp2
      go_ret
      exact ⟨rfl, rfl⟩
    · by_cases c2 : m < 9218868437227405312
      · have h := hc.out
        rw [if_neg c0, if_neg c1, if_pos c2] at h
        subst h
        have e1 : decide ((m : Int) < 4503599627370496) = false := by simp; omega
        have e2 : decide ((m : Int) < 9218868437227405312) = true := by simp; omega
        clear hc c0 c1 c2
        go_enter Tryz.func174, Tryz.ntmps174
        go_wp2_with fail
        refine (refMag_at x _ _ hm).mono ?_
        rintro e w' ⟨rfl, rfl⟩
        go_wp2
        go_ret
        exact ⟨rfl, rfl⟩
      · by_cases c3 : m = 9218868437227405312
        · have h := hc.out
          rw [if_neg c0, if_neg c1, if_neg c2, if_pos c3] at h
          subst h
          clear hc
          subst c3
          go_enter Tryz.func174, Tryz.ntmps174
          go_wp2_with fail
          refine (refMag_at x _ _ hm).mono ?_
          rintro e w' ⟨rfl, rfl⟩
          go_wp2
          go_ret
          exact ⟨rfl, rfl⟩
        · have e3 : ((m : Int) == 9218868437227405312) = false := by simp; omega
          have h := hc.out
          rw [if_neg c0, if_neg c1, if_neg c2, if_neg c3] at h
          subst h
          have e1 : decide ((m : Int) < 4503599627370496) = false := by simp; omega
          have e2 : decide ((m : Int) < 9218868437227405312) = false := by simp; omega
          clear hc c0 c1 c2 c3
          go_enter Tryz.func174, Tryz.ntmps174
          go_wp2_with fail
          refine (refMag_at x _ _ hm).mono ?_
          rintro e w' ⟨rfl, rfl⟩
          go_wp2
          go_ret
          exact ⟨rfl, rfl⟩
theorem refClass_any (x : Nat) (w : World) :
    Calls Tryz.prog 174 #[.float .f64 x] w fun e w' => e = .returned (.int .i64 (classB x)) ∧ w' = w :=
  refClass_at x (mg x) (classB x) w rfl rfl
open Ieee in
theorem rtB_ng (x : Nat) : ng (rtB x) = false := by
  have key : ∀ r, double.sqrt x = some r → ng (canonB r) = false := by
    intro r h
    unfold Format.sqrt at h
    cases e : double.read x with
    | nan s f => rw [e] at h; simp [Datum.root] at h
    | infinity s =>
      rw [e] at h
      cases s
      · simp [Datum.root, Format.write] at h; subst h; decide
      · simp [Datum.root] at h
    | number s m i =>
      rw [e] at h
      unfold Datum.root at h
      dsimp only at h
      by_cases hm : m = 0
      · rw [if_pos hm] at h
        simp only [Option.map_some, Option.some.injEq, Format.write, Format.nearest, hm, if_true] at h
        subst h
        cases s <;> decide
      · rw [if_neg hm] at h
        cases s
        · simp only [Bool.false_eq_true, if_false, Option.map_some, Option.some.injEq, Format.write] at h
          subst h
          have hw : ∀ a b, double.nearest false a b ≤ 9218868437227405312 := by
            intro a b
            unfold Format.nearest
            split
            · rw [d_word]; simp
            · rw [d_word, d_inf]; simp only [Bool.false_eq_true, if_false]; exact Nat.min_le_right _ _
          generalize hq : double.nearest false _ _ = q
          have hle : q ≤ 9218868437227405312 := by rw [← hq]; exact hw _ _
          unfold canonB
          split
          · decide
          · split
            · decide
            · exact ng_of_lt (by omega)
        · simp at h
  cases h : double.sqrt x with
  | none => rw [rtB_none h]; decide
  | some r => rw [rtB_some h]; exact key r h
theorem rtB_lt (x : Nat) : rtB x < 18446744073709551616 := by
  cases h : Ieee.double.sqrt x with
  | none => rw [rtB_none h]; decide
  | some r => rw [rtB_some h]; exact canon_lt (sqrt_lt h)
/-- of a length: lives, or what class it has -/
theorem lv_class {l : Nat} (hl : l < 18446744073709551616) (hn : ng l = false) : lvB l = (classB l == 1 || classB l == 2) := by
  unfold lvB
  rw [fgt_rk l 0 hl (by decide), fgt_rk l _ hl (by decide)]
  have e1 : rk 0 = 0 := by decide
  have e2 : rk 9218868437227405311 = 9218868437227405311 := by decide
  have e3 : isN 0 = false := by decide
  have e4 : isN 9218868437227405311 = false := by decide
  have e5 : rk l = (mg l : Int) := by unfold rk; rw [hn]; rfl
  rw [e1, e2, e3, e4, e5]
  unfold classB isN
  by_cases a : mg l = 0
  · simp [a]
  · rw [if_neg a]
    by_cases b : mg l < 4503599627370496
    · rw [if_pos b]
      have : ¬ 9218868437227405312 < mg l := by omega
      simp [this]; omega
    · rw [if_neg b]
      by_cases c : mg l < 9218868437227405312
      · rw [if_pos c]
        have : ¬ 9218868437227405312 < mg l := by omega
        simp [this]; omega
      · rw [if_neg c]
        by_cases d : mg l = 9218868437227405312
        · rw [if_pos d]; simp [d]
        · rw [if_neg d]
          have : 9218868437227405312 < mg l := by omega
          simp [this]
set_option maxHeartbeats 8000000 in
theorem runit_at (x y z : Nat) (w : World) (hx : x < 18446744073709551616) (hy : y < 18446744073709551616) (hz : z < 18446744073709551616) :
    Calls Tryz.prog 166 #[.agg #[.float .f64 x, .float .f64 y, .float .f64 z]] w fun e w' => e = .returned (.agg #[.float .f64 (unB (lnB x y z) x), .float .f64 (unB (lnB x y z) y), .float .f64 (unB (lnB x y z) z)]) ∧ Below w.heap.size w w' := by
  have LN := hid (fun w => rlength_at x y z w hx hy hz)
  obtain ⟨l, hl⟩ : ∃ l, lnB x y z = l := ⟨_, rfl⟩
  have hlt : l < 18446744073709551616 := by rw [← hl]; exact rtB_lt _
  have hng : ng l = false := by rw [← hl]; exact rtB_ng _
  rw [hl]
  rw [hl] at LN
  have lc := lv_class hlt hng
  obtain ⟨c, hc⟩ : ∃ c, classB l = c := ⟨_, rfl⟩
  rw [hc] at lc
  have IF : Hid (∀ w, Calls Tryz.prog 174 #[.float .f64 l] w fun e w' => e = .returned (.int .i64 c) ∧ w' = w) := fun w => by rw [← hc]; exact refClass_any l w
  have hcr : c = 0 ∨ c = 1 ∨ c = 2 ∨ c = 3 ∨ c = 4 := by
    rw [← hc]; unfold classB; repeat' split
    all_goals simp
  have A0 := hid (bl2 w (.cells #[.float .f64 x, .float .f64 y, .float .f64 z] 131) (.cells #[.float .f64 0, .float .f64 0, .float .f64 0] 131))
  have R0 := hid (And.intro (heap_alloc2_old w (.cells #[.float .f64 x, .float .f64 y, .float .f64 z] 131) (.cells #[.float .f64 0, .float .f64 0, .float .f64 0] 131)) (heap_alloc2_new w (.cells #[.float .f64 x, .float .f64 y, .float .f64 z] 131) (.cells #[.float .f64 0, .float .f64 0, .float .f64 0] 131)))
  have MZ := hid (fun w => made_at 0 0 0 0 0 0 w ⟨by decide, by decide⟩ ⟨by decide, by decide⟩ ⟨by decide, by decide⟩)
  clear hx hy hz hl hlt hng hc
  by_cases hv : lvB l = true
  · have hu : ∀ k, unB l k = dvB k l := fun k => by simp [unB, hv]
    rw [hu, hu, hu]
    have hc2 : c = 1 ∨ c = 2 := by rw [hv] at lc; simpa using lc.symm
    clear hu hv lc hcr
    rcases hc2 with rfl | rfl
    all_goals
      go_enter Tryz.func166, Tryz.ntmps166
      go_wp2_with fail
      refine (LN.out _).mono ?_
      rintro e w1 ⟨rfl, b1⟩
      have r0 : w1.heap[w.heap.size + 1]? = some (.cells #[.float .f64 0, .float .f64 0, .float .f64 0] 131) := Ab.heap b1 R0.out.2
      have ra : w1.heap[w.heap.size]? = some (.cells #[.float .f64 x, .float .f64 y, .float .f64 z] 131) := Ab.heap b1 R0.out.1
      have A1 : Hid (Ab w w1) := Ab.call A0.out b1
      obtain ⟨-, a0, a1, a2⟩ := rowfacts ra
      have R1 := hid r0
      obtain ⟨r1, n1, k1, q1⟩ := div_any (P := Tryz.prog) w1 x l
      obtain ⟨r2, n2, k2, q2⟩ := div_any (P := Tryz.prog) (w1.drewN n1) y l
      obtain ⟨r3, n3, k3, q3⟩ := div_any (P := Tryz.prog) (w1.drewN (n1 + n2)) z l
      rw [World.drewN_drewN] at k2 k3
      have CN := hid (fun w => made_at r1 r2 r3 _ _ _ w q1 q2 q3)
      clear r0 ra b1 A0 R0 q1 q2 q3
      go_wp2_with fail
      refine (IF.out _).mono ?_
      rintro e w1 ⟨rfl, rfl⟩
      go_wp2_with fail
      refine (CN.out _).mono ?_
      rintro e w4 ⟨rfl, b4⟩
      have A4 : Hid (Ab w w4) := Ab.call (Ab.drewN A1.out _) b4
      have r4 : w4.heap[w.heap.size + 1]? = some (.cells #[.float .f64 0, .float .f64 0, .float .f64 0] 131) := Ab.heap b4 R1.out
      obtain ⟨⟨o0, o1, o2⟩, o3, o4, o5⟩ := rowfacts r4
      have R4 := hid r4
      clear r4 b4 A1 R1 k1 k2 k3 a0 a1 a2
      go_wp2
      refine bodyPost_ret ?_ rfl ⟨rfl, ?_⟩
      · exact results_cell_row Tryz.results166 _ _ (w.heap.size + 1) _ _ (0, 0) _ rfl (row3 R4.out) Tryz.underlying131 rfl (by kernel_rfl)
      · exact ((Ab.setk A4.out (by omega) _).setk (by omega) _).setk (by omega) _
  · have hu : ∀ k, unB l k = 0 := fun k => by simp [unB, hv]
    rw [hu, hu, hu]
    have hc2 : c = 0 ∨ c = 3 ∨ c = 4 := by
      have h0 : lvB l = false := by simpa using hv
      rw [h0] at lc
      rcases hcr with rfl | rfl | rfl | rfl | rfl
      · exact .inl rfl
      · simp at lc
      · simp at lc
      · exact .inr (.inl rfl)
      · exact .inr (.inr rfl)
    clear hu hv lc hcr
    rcases hc2 with rfl | rfl | rfl
    all_goals
      go_enter Tryz.func166, Tryz.ntmps166
      go_wp2_with fail
      refine (LN.out _).mono ?_
      rintro e w1 ⟨rfl, b1⟩
      have r0 : w1.heap[w.heap.size + 1]? = some (.cells #[.float .f64 0, .float .f64 0, .float .f64 0] 131) := Ab.heap b1 R0.out.2
      have A1 : Hid (Ab w w1) := Ab.call A0.out b1
      have R1 := hid r0
      clear r0 b1 A0 R0
      go_wp2_with fail
      refine (IF.out _).mono ?_
      rintro e w1 ⟨rfl, rfl⟩
      go_wp2_with fail
      refine (MZ.out _).mono ?_
      rintro e w4 ⟨rfl, b4⟩
      have A4 : Hid (Ab w w4) := Ab.call A1.out b4
      have r4 : w4.heap[w.heap.size + 1]? = some (.cells #[.float .f64 0, .float .f64 0, .float .f64 0] 131) := Ab.heap b4 R1.out
      obtain ⟨⟨o0, o1, o2⟩, o3, o4, o5⟩ := rowfacts r4
      have R4 := hid r4
      clear r4 b4 A1 R1
      go_wp2
      refine bodyPost_ret ?_ rfl ⟨rfl, ?_⟩
      · exact results_cell_row Tryz.results166 _ _ (w.heap.size + 1) _ _ (0, 0) _ rfl (row3 R4.out) Tryz.underlying131 rfl (by kernel_rfl)
      · exact ((Ab.setk A4.out (by omega) _).setk (by omega) _).setk (by omega) _
end Go.Proofs.YtbibhgikmnpbfaaGreatDoor

namespace Go.Proofs.YtbibhgikmnpbfaaGreatDoor
open Tf Ieee
/-- a number whose square is normal -/
def Gn (x : Nat) : Prop := 4503599627370496 ≤ mg (sqB x) ∧ mg (sqB x) < 9218868437227405312
theorem sq_inf {x : Nat} (hx : x < 18446744073709551616) (h : mg x = 9218868437227405312) : sqB x = 9218868437227405312 := by
  unfold sqB
  rw [mlB_some (mul_ii x x hx hx h h), Bool.xor_self]
  rfl
theorem Gn.fin {x : Nat} (hx : x < 18446744073709551616) (h : Gn x) : mg x < 9218868437227405312 := by
  rcases three x with k | k | k
  · exact k
  · exfalso
    have := h.2
    rw [sq_inf hx k] at this
    exact absurd this (by decide)
  · exfalso
    have := h.2
    unfold sqB at this
    rw [mlB_none (mul_nan _ _ (.inl k))] at this
    exact absurd this (by decide)
end Go.Proofs.YtbibhgikmnpbfaaGreatDoor

namespace Go.Proofs.YtbibhgikmnpbfaaGreatDoor
open Tf Ieee Cu
/-- the opposite, in the form in which floats are answered -/
def cn (x : Nat) : Nat := canonB (negB x)
theorem canon_cases {x : Nat} (_ : x < 18446744073709551616) : (isN x = true ∧ canonB x = quiet) ∨ (mg x = 0 ∧ canonB x = 0) ∨ (isN x = false ∧ mg x ≠ 0 ∧ canonB x = x) := by
  unfold canonB
  cases h : isN x
  · by_cases c : mg x = 0
    · exact .inr (.inl ⟨c, by simp [c]⟩)
    · exact .inr (.inr ⟨rfl, c, by simp [c]⟩)
  · exact .inl ⟨rfl, by simp⟩
theorem cn_canon {x : Nat} (hx : x < 18446744073709551616) : cn (canonB x) = cn x := by
  have h1 := negB_isN hx
  have h2 := negB_mg hx
  rcases canon_cases hx with ⟨h, e⟩ | ⟨h, e⟩ | ⟨h, k, e⟩
  · rw [e]; unfold cn canonB; rw [h1, h, if_pos rfl]; decide
  · rw [e]; unfold cn
    have : canonB (negB x) = 0 := by
      rcases canon_cases (negB_lt' hx) with ⟨a, b⟩ | ⟨a, b⟩ | ⟨a, a', b⟩
      · rw [h1] at a; unfold isN at a; rw [h] at a; simp at a
      · exact b
      · rw [h2] at a'; exact absurd h a'
    rw [this]; decide
  · rw [e]
theorem nearest_not (s : Bool) (m : Nat) (p : Int) : double.nearest (!s) m p = negB (double.nearest s m p) := by
  have hw : ∀ (s : Bool) r, r < 9223372036854775808 → double.word (!s) r = negB (double.word s r) := by
    intro s r hr
    rw [d_word, d_word]
    cases s
    · simp only [Bool.not_false, if_true, Bool.false_eq_true, if_false]
      unfold negB; rw [ng_of_lt hr]; simp; omega
    · simp only [Bool.not_true, if_true, Bool.false_eq_true, if_false]
      unfold negB; rw [ng_of_ge (by omega)]; simp
  unfold Format.nearest
  by_cases c : m = 0
  · rw [if_pos c, if_pos c]; exact hw s 0 (by omega)
  · rw [if_neg c, if_neg c]
    have hm : ∀ x, min x double.infRung < 9223372036854775808 := fun x => by
      have := Nat.min_le_right x double.infRung
      rw [d_inf] at this ⊢; omega
    exact hw s _ (hm _)
theorem write_opp (d : Datum) (h : ∀ s t, d ≠ .nan s t) : double.write d.opposite = negB (double.write d) := by
  cases d with
  | number s m i => exact nearest_not s m i
  | infinity s => cases s <;> decide +kernel
  | nan s t => exact absurd rfl (h s t)
theorem div_opp (p : Nat) (d e : Datum) : d.opposite.quotient p e = (d.quotient p e).map Datum.opposite ∧ (∀ s t, d.quotient p e ≠ some (.nan s t)) := by
  cases d <;> cases e <;> simp [Datum.opposite, Datum.quotient] <;> (try split) <;> (try split) <;> simp [Datum.opposite]
theorem map_opp {o : Option Datum} (h : ∀ s t, o ≠ some (.nan s t)) : (o.map Datum.opposite).map double.write = (o.map double.write).map negB := by
  cases o with
  | none => rfl
  | some d => simp only [Option.map_some]; rw [write_opp d (fun s t e => h s t (by rw [e]))]
theorem div_lt64 {a b r : Nat} (h : double.div a b = some r) : r < 18446744073709551616 := by
  have hr : ∃ d, double.write d = r := by
    have h' : ((double.read a).quotient 54 (double.read b)).map double.write = some r := h
    rw [Option.map_eq_some_iff] at h'
    obtain ⟨d, _, e⟩ := h'
    exact ⟨d, e⟩
  obtain ⟨d, e⟩ := hr
  have hw : ∀ (s : Bool) q, q < 9223372036854775808 → double.word s q < 18446744073709551616 := by
    intro s q hq; rw [d_word]; split <;> omega
  have hb : double.binade = 4503599627370496 := d_bin
  have hi : double.infRung = 9218868437227405312 := d_inf
  rw [← e]
  cases d with
  | number s m i =>
    unfold Format.write Format.nearest
    dsimp only
    split
    · exact hw _ _ (by omega)
    · exact hw _ _ (Nat.lt_of_le_of_lt (Nat.min_le_right _ _) (by rw [hi]; omega))
  | infinity s => exact hw _ _ (by rw [hi]; omega)
  | nan s t =>
    refine hw _ _ ?_
    have := Nat.mod_lt t (show 0 < double.binade by rw [hb]; omega)
    rw [hi]; rw [hb] at this ⊢; omega
theorem dvB_cn {a b : Nat} (ha : a < 18446744073709551616) : dvB (negB a) b = cn (dvB a b) := by
  have key : double.div (negB a) b = (double.div a b).map negB := by
    show ((double.read (negB a)).quotient 54 (double.read b)).map double.write = (((double.read a).quotient 54 (double.read b)).map double.write).map negB
    rw [read_neg a ha, (div_opp 54 _ _).1]
    exact map_opp (div_opp 54 _ _).2
  cases h : double.div a b with
  | none => rw [h] at key; rw [dvB_none h, dvB_none key]; decide
  | some r => rw [h] at key; rw [dvB_some h, dvB_some key, cn_canon (div_lt64 h)]; rfl
theorem dvB_z (b : Nat) (h1 : mg b ≠ 0) (h2 : mg b < 9218868437227405312) (z : Nat) (hz : mg z = 0) : dvB z b = 0 := by
  obtain ⟨m, a, e, k⟩ := read_fin double b (by rw [rg_d, d_inf]; exact h2)
  have hm : m ≠ 0 := by
    intro h0
    rw [h0, Nat.zero_mul, rg_d] at k
    have k2 : mv (mg b) = 0 := k.symm
    refine h1 ?_
    unfold mv mag at k2
    split at k2
    · exact k2
    · exact absurd k2 (Nat.mul_ne_zero (by have := Nat.two_pow_pos 52; omega) (by have := Nat.two_pow_pos (mg b / 2 ^ 52 - 1); omega))
  have hd : ∃ s p, double.div z b = some (double.nearest s 0 p) := by
    have hq : ∃ s p, (double.read z).quotient 54 (double.read b) = some (.number s 0 p) := by
      rw [e, read_zero hz]
      unfold Datum.quotient
      dsimp only
      rw [if_neg hm]
      simp
    obtain ⟨s, p, hq⟩ := hq
    refine ⟨s, p, ?_⟩
    show ((double.read z).quotient 54 (double.read b)).map double.write = _
    rw [hq]; rfl
  obtain ⟨s, p, e⟩ := hd
  rw [dvB_some e]
  unfold Format.nearest
  rw [if_pos rfl]
  cases s <;> decide +kernel
/-- whole numbers, and their quotients, as floats -/
def fB (k : Int) : Nat := rn false (k * one)
def qo (n : Nat) (k : Int) : Nat := dvB (fB k) (fB n)
theorem fB_lt (k : Int) : fB k < 18446744073709551616 := rn_lt _ _
theorem dvB_lt (a b : Nat) : dvB a b < 18446744073709551616 := by
  unfold dvB
  cases h : double.div a b with
  | none => decide
  | some r => exact canon_lt (div_lt64 h)
theorem qo_lt (n : Nat) (k : Int) : qo n k < 18446744073709551616 := dvB_lt _ _
theorem fB_neg (k : Int) : fB (-k) = cn (fB k) := by unfold fB cn; rw [rn_negv, Int.neg_mul]
theorem fB_norm : ∀ n : Nat, n < 33 → 1 ≤ n → mg (fB n) ≠ 0 ∧ mg (fB n) < 9218868437227405312 := by decide +kernel
theorem qo_neg {n : Nat} (h1 : 1 ≤ n) (h2 : n ≤ 32) (k : Int) : qo n (-k) = cn (qo n k) := by
  obtain ⟨b1, b2⟩ := fB_norm n (by omega) h1
  unfold qo
  rw [fB_neg]
  have hx := fB_lt k
  unfold cn
  rcases canon_cases (negB_lt' hx) with ⟨h, e⟩ | ⟨h, e⟩ | ⟨h, k', e⟩
  · rw [negB_isN hx] at h
    have : isN (fB k) = false := isN_rn _ _
    rw [this] at h; cases h
  · rw [e, dvB_z _ b1 b2 0 (by decide), dvB_z _ b1 b2 (fB k) (by rw [← negB_mg hx]; exact h)]; decide
  · rw [e, dvB_cn hx]; rfl
theorem qo_one : ∀ n : Nat, n < 33 → 1 ≤ n → qo n n = 4607182418800017408 := by decide +kernel
/-- a point: its length ahead of Unit, and its three parts -/
def pL (n : Nat) (v : P3) : Nat := lnB (qo n v.1) (qo n v.2.1) (qo n v.2.2)
def px (n : Nat) (v : P3) : Nat := unB (pL n v) (qo n v.1)
def py (n : Nat) (v : P3) : Nat := unB (pL n v) (qo n v.2.1)
def pz (n : Nat) (v : P3) : Nat := unB (pL n v) (qo n v.2.2)
theorem px_lt (n : Nat) (v : P3) : px n v < 18446744073709551616 := unB_lt _ _
theorem py_lt (n : Nat) (v : P3) : py n v < 18446744073709551616 := unB_lt _ _
theorem pz_lt (n : Nat) (v : P3) : pz n v < 18446744073709551616 := unB_lt _ _
/-- how far two points are apart -/
def gp (n : Nat) (u v : P3) : Nat := lnB (sbB (px n u) (px n v)) (sbB (py n u) (py n v)) (sbB (pz n u) (pz n v))
/-- the length of a cross product -/
def cl (x y z u v t : Nat) : Nat := lnB (sbB (mlB y t) (mlB z v)) (sbB (mlB z u) (mlB x t)) (sbB (mlB x v) (mlB y u))
/-- twice a cell's area, of its four corners -/
def ar (n : Nat) (p q r s : P3) : Nat := cl (sbB (px n r) (px n p)) (sbB (py n r) (py n p)) (sbB (pz n r) (pz n p)) (sbB (px n s) (px n q)) (sbB (py n s) (py n q)) (sbB (pz n s) (pz n q))
end Go.Proofs.YtbibhgikmnpbfaaGreatDoor

namespace Go.Proofs.YtbibhgikmnpbfaaGreatDoor
open Tf Ieee Cu
/-- a corner of a face's net -/
def cr (n f i j : Nat) : P3 := pl (sc n (cC f)) (pl (sc (2 * i - n) (cR f)) (sc (2 * j - n) (cU f)))
/-- the two corners of a side -/
def e1 (n f s i j : Nat) : P3 := match s with | 0 => cr n f (i + 1) j | 1 => cr n f i (j + 1) | 2 => cr n f i j | _ => cr n f i j
def e2 (n f s i j : Nat) : P3 := match s with | 0 => cr n f (i + 1) (j + 1) | 1 => cr n f (i + 1) (j + 1) | 2 => cr n f i (j + 1) | _ => cr n f (i + 1) j
/-- of a cell by its number: its middle, the corners of a side, their gap, the gap of the middles, twice its area -/
def MD (n c : Nat) : P3 := md n (cf n c) (ci n c) (cj n c)
def C1 (n c s : Nat) : P3 := e1 n (cf n c) s (ci n c) (cj n c)
def C2 (n c s : Nat) : P3 := e2 n (cf n c) s (ci n c) (cj n c)
def LnC (n c s : Nat) : Nat := gp n (C1 n c s) (C2 n c s)
def GpC (n c s : Nat) : Nat := gp n (MD n c) (MD n (bsC n c s))
def ArC (n c : Nat) : Nat := ar n (cr n (cf n c) (ci n c) (cj n c)) (cr n (cf n c) (ci n c + 1) (cj n c)) (cr n (cf n c) (ci n c + 1) (cj n c + 1)) (cr n (cf n c) (ci n c) (cj n c + 1))
end Go.Proofs.YtbibhgikmnpbfaaGreatDoor

namespace Go.Proofs.YtbibhgikmnpbfaaGreatDoor
open Tf

/-- what a finite double is made whole to; whether it is one of 64 bits; the answer -/
def cq (way : Ieee.Toward) (x : Nat) : Int := if ng x then -((cutq way (ng x) (mv (mg x)) one : Nat) : Int) else ((cutq way (ng x) (mv (mg x)) one : Nat) : Int)
def cOk (way : Ieee.Toward) (x : Nat) : Bool := fin x && decide (-9223372036854775808 ≤ cq way x) && decide (cq way x < 9223372036854775808)
def cI (way : Ieee.Toward) (x : Nat) : Int := if cOk way x then cq way x else 0
/-- a double that is no NaN, made whole -/
def itV (way : Ieee.Toward) (x : Nat) : Nat := Ieee.double.write ((Ieee.double.read x).integral way)

/-- the code's own test, and its answer -/
def wOk (y : Nat) : Bool := (fgt y 14114281232179134464 || feq y 14114281232179134464) && flt y 4890909195324358656
def wI (y : Nat) : Int := if wOk y then (if ng y then -((mv (mg y) / one : Nat) : Int) else ((mv (mg y) / one : Nat) : Int)) else 0

theorem mv_p63 : mv 4890909195324358656 = 2 ^ 63 * one := mv_from_one 63 _ (by decide)

theorem wOk_rk (y : Nat) (hy : y < 18446744073709551616) : wOk y = (!isN y && decide (-4890909195324358656 ≤ rk y) && decide (rk y < 4890909195324358656)) := by
  unfold wOk
  rw [fgt_rk y _ hy (by decide), feq_rk y _ hy (by decide), flt_rk y _ hy (by decide)]
  have n1 : isN 14114281232179134464 = false := by decide
  have n2 : isN 4890909195324358656 = false := by decide
  have r1 : rk 14114281232179134464 = -4890909195324358656 := by decide
  have r2 : rk 4890909195324358656 = 4890909195324358656 := by decide
  rw [n1, n2, r1, r2]
  cases isN y
  · simp only [Bool.not_false, Bool.and_self, Bool.true_and]
    congr 1
    rw [← Bool.decide_or]
    exact decide_eq_decide.2 (by omega)
  · simp

theorem wOk_fin {y : Nat} (hy : y < 18446744073709551616) (h : wOk y = true) : mg y ≤ 4890909195324358656 ∧ (ng y = false → mg y < 4890909195324358656) := by
  rw [wOk_rk y hy] at h
  simp only [Bool.and_eq_true, decide_eq_true_eq] at h
  obtain ⟨⟨_, a⟩, b⟩ := h
  unfold rk at a b
  cases hn : ng y <;> rw [hn] at a b <;> simp only [Bool.false_eq_true, if_false, if_true] at a b
  · exact ⟨by omega, fun _ => by omega⟩
  · exact ⟨by omega, fun h => by cases h⟩

theorem wI_conv {y : Nat} (hy : y < 18446744073709551616) (h : wOk y = true) : floatToIntVal .f64 y .i64 = some (wI y) := by
  obtain ⟨a, b⟩ := wOk_fin hy h
  unfold floatToIntVal
  have e : (FloatKind.f64.decode y).toInt .zero = some (if ng y then -((mv (mg y) / one : Nat) : Int) else ((mv (mg y) / one : Nat) : Int)) := toInt_d y hy (by omega)
  rw [e]
  have hw : wI y = (if ng y then -((mv (mg y) / one : Nat) : Int) else ((mv (mg y) / one : Nat) : Int)) := by unfold wI; rw [h]; rfl
  rw [← hw]
  have hle : mv (mg y) / one ≤ 2 ^ 63 := by
    have h1 := mv_le.2 a
    rw [mv_p63] at h1
    have h2 := Nat.div_le_div_right (c := one) h1
    rwa [Nat.mul_div_cancel _ one_pos] at h2
  have hlt : ng y = false → mv (mg y) / one < 2 ^ 63 := by
    intro h'
    rw [Nat.div_lt_iff_lt_mul one_pos, ← mv_p63]
    exact mv_lt.2 (b h')
  have hb : IntKind.i64.min ≤ wI y ∧ wI y ≤ IntKind.i64.max := by
    have m1 : IntKind.i64.min = -9223372036854775808 := by decide
    have m2 : IntKind.i64.max = 9223372036854775807 := by decide
    rw [m1, m2, hw]
    generalize mv (mg y) / one = q at *
    cases hn : ng y
    · have := hlt hn
      simp only [Bool.false_eq_true, if_false]; omega
    · simp only [if_true]; omega
  simp only [hb, and_self, if_true]

theorem itV_lt (way : Ieee.Toward) (x : Nat) : itV way x < 18446744073709551616 := Ieee.double.write_lt _

/-- what a finite double is made whole to is that number -/
theorem itV_fin (way : Ieee.Toward) (x : Nat) (hx : x < 18446744073709551616) (fx : mg x < 9218868437227405312) :
    ng (itV way x) = ng x ∧ mg (itV way x) < 9218868437227405312 ∧ mv (mg (itV way x)) = cutq way (ng x) (mv (mg x)) one * one := by
  obtain ⟨r, hr, e, hw⟩ := integral_d way x hx fx
  have hw' : itV way x = if ng x then 9223372036854775808 + r else r := hw
  rw [hw']
  cases hn : ng x
  · simp only [Bool.false_eq_true, if_false]
    rw [ng_of_lt (by omega), mg_of_lt (by omega)]
    exact ⟨rfl, hr, by rw [hn] at e; exact e⟩
  · simp only [if_true]
    rw [ng_of_ge (by omega), mg_of_ge (by omega) (by omega)]
    rw [show 9223372036854775808 + r - 9223372036854775808 = r by omega]
    exact ⟨rfl, hr, by rw [hn] at e; exact e⟩
theorem sv_itV (way : Ieee.Toward) (x : Nat) (hx : x < 18446744073709551616) (fx : mg x < 9218868437227405312) : sv (itV way x) = cq way x * one := by
  obtain ⟨a, _, c⟩ := itV_fin way x hx fx
  unfold sv cq
  rw [a, c]
  cases ng x <;> simp [Int.neg_mul]
theorem itV_inf (way : Ieee.Toward) (x : Nat) (hx : x < 18446744073709551616) (fx : mg x = 9218868437227405312) : itV way x = x := by
  have ei := d_inf
  unfold itV
  rw [read_inf Ieee.double x d_he (by rw [rg_d]; omega), sg_d x hx]
  simp only [Ieee.Datum.integral, Ieee.Format.write]
  rw [d_word, d_inf]
  have hw := word_eq x hx
  rw [fx] at hw
  exact hw.symm

theorem sv_p63 : sv 4890909195324358656 = 9223372036854775808 * (one : Int) := by
  unfold sv
  have h1 : ng 4890909195324358656 = false := by decide
  have h2 : mg 4890909195324358656 = 4890909195324358656 := by decide
  rw [h1, h2, mv_p63]
  simp only [Bool.false_eq_true, if_false, Int.natCast_mul]
  rfl
theorem sv_n63 : sv 14114281232179134464 = -9223372036854775808 * (one : Int) := by
  unfold sv
  have h1 : ng 14114281232179134464 = true := by decide
  have h2 : mg 14114281232179134464 = 4890909195324358656 := by decide
  rw [h1, h2, mv_p63]
  simp only [if_true, Int.natCast_mul, ← Int.neg_mul]
  rfl
theorem onep : (0 : Int) < (one : Int) := by exact_mod_cast one_pos

theorem wOk_itV (way : Ieee.Toward) (x : Nat) (hx : x < 18446744073709551616) (n : isN x = false) : wOk (itV way x) = cOk way x := by
  have hle := isN_false.1 n
  by_cases fx : mg x < 9218868437227405312
  · obtain ⟨a, b, c⟩ := itV_fin way x hx fx
    have hn : isN (itV way x) = false := isN_false.2 (by omega)
    rw [wOk_rk _ (itV_lt way x), hn]
    unfold cOk
    have hf : fin x = true := by unfold fin; exact decide_eq_true fx
    rw [hf]
    have r1 : rk 14114281232179134464 = -4890909195324358656 := by decide
    have r2 : rk 4890909195324358656 = 4890909195324358656 := by decide
    have s1 := sv_lt_iff (itV way x) 14114281232179134464
    have s2 := sv_lt_iff (itV way x) 4890909195324358656
    rw [r1, sv_itV way x hx fx, sv_n63, Int.mul_lt_mul_right onep] at s1
    rw [r2, sv_itV way x hx fx, sv_p63, Int.mul_lt_mul_right onep] at s2
    have t1 : decide (-4890909195324358656 ≤ rk (itV way x)) = decide (-9223372036854775808 ≤ cq way x) := decide_eq_decide.2 (by omega)
    have t2 : decide (rk (itV way x) < 4890909195324358656) = decide (cq way x < 9223372036854775808) := decide_eq_decide.2 (by omega)
    rw [t1, t2]; simp
  · have e : mg x = 9218868437227405312 := by omega
    rw [itV_inf way x hx e, wOk_rk x hx, n]
    unfold cOk
    have hf : fin x = false := by unfold fin; exact decide_eq_false fx
    rw [hf]
    unfold rk; rw [e]
    cases ng x <;> simp
theorem wI_itV (way : Ieee.Toward) (x : Nat) (hx : x < 18446744073709551616) (n : isN x = false) : wI (itV way x) = cI way x := by
  unfold wI cI
  rw [wOk_itV way x hx n]
  cases h : cOk way x
  · rfl
  · have fx : mg x < 9218868437227405312 := by
      unfold cOk at h
      simp only [Bool.and_eq_true] at h
      have := h.1.1
      unfold fin at this
      simpa using this
    obtain ⟨a, b, c⟩ := itV_fin way x hx fx
    rw [if_pos rfl, if_pos rfl, a, c, Nat.mul_div_cancel _ one_pos]
    rfl
theorem wOk_nan {y : Nat} (hy : y < 18446744073709551616) (n : isN y = true) : wOk y = false ∧ wI y = 0 := by
  have h : wOk y = false := by rw [wOk_rk y hy, n]; rfl
  exact ⟨h, by unfold wI; rw [h]; rfl⟩
theorem cOk_nan (way : Ieee.Toward) {x : Nat} (n : isN x = true) : cOk way x = false ∧ cI way x = 0 := by
  have h : cOk way x = false := by
    unfold cOk fin
    have := isN_true.1 n
    rw [decide_eq_false (by omega)]; rfl
  exact ⟨h, by unfold cI; rw [h]; rfl⟩

end Go.Proofs.YtbibhgikmnpbfaaGreatDoor

namespace Go.Proofs.YtbibhgikmnpbfaaGreatDoor
open Go.RowKit Tf
attribute [local go_sem] run_bits run_from raw_feq raw_fne raw_flt raw_fgt run_neg

/-- a signalling NaN made whole: a NaN that is drawn -/
def snan (w : World) (x : Nat) : Nat :=
  if (Question.extern "math.Floor,Ceil,Trunc,RoundToEven.signallingNaN kept" 2).cut (w.tape w.drawn (Question.extern "math.Floor,Ceil,Trunc,RoundToEven.signallingNaN kept" 2)) == 1 then x
  else FloatKind.f64.encode (.nan (sg Ieee.double x) (FloatKind.f64.format.quiet (rg Ieee.double x - Ieee.double.infRung)))
theorem or_bit (t : Nat) (h : t < 4503599627370496) : Ieee.double.quiet t % 4503599627370496 = Ieee.double.quiet t ∧ 0 < Ieee.double.quiet t := by
  have e : Ieee.double.quiet t = t ||| 2 ^ 51 := rfl
  rw [e]
  have h1 : t ||| 2 ^ 51 < 2 ^ 52 := Nat.or_lt_two_pow (by omega) (by omega)
  have h2 : 2 ^ 51 ≤ t ||| 2 ^ 51 := Nat.right_le_or
  omega
theorem snan_nan (w : World) (x : Nat) (hx : x < 18446744073709551616) (n : isN x = true) : snan w x < 18446744073709551616 ∧ isN (snan w x) = true := by
  have ei := d_inf
  have hm := mg_lt x
  have hn := isN_true.1 n
  unfold snan
  split
  · exact ⟨hx, n⟩
  · rw [rg_d, sg_d x hx, ei]
    obtain ⟨q1, q2⟩ := or_bit (mg x - 9218868437227405312) (by omega)
    have e : ∀ (b : Bool) (t : Nat), FloatKind.f64.encode (.nan b t) = if b then 9223372036854775808 + (9218868437227405312 + t % 4503599627370496) else 9218868437227405312 + t % 4503599627370496 := by
      intro b t
      show Ieee.double.word b (Ieee.double.infRung + t % Ieee.double.binade) = _
      rw [d_word, d_inf, d_bin]
    rw [e]
    change (if ng x = true then 9223372036854775808 + (9218868437227405312 + Ieee.double.quiet (mg x - 9218868437227405312) % 4503599627370496) else 9218868437227405312 + Ieee.double.quiet (mg x - 9218868437227405312) % 4503599627370496) < _ ∧ isN (if ng x = true then 9223372036854775808 + (9218868437227405312 + Ieee.double.quiet (mg x - 9218868437227405312) % 4503599627370496) else 9218868437227405312 + Ieee.double.quiet (mg x - 9218868437227405312) % 4503599627370496) = true
    generalize Ieee.double.quiet (mg x - 9218868437227405312) = t at *
    have ht : t % 4503599627370496 < 4503599627370496 := Nat.mod_lt _ (by decide)
    rw [isN_true]
    cases ng x
    · simp only [Bool.false_eq_true, if_false]
      refine ⟨by omega, ?_⟩
      rw [mg_of_lt (by omega)]; omega
    · simp only [if_true]
      refine ⟨by omega, ?_⟩
      rw [mg_of_ge (by omega) (by omega)]; omega

/-- is it a NaN that is quiet? -/
def qNaN (x : Nat) : Bool := FloatKind.f64.format.quiet (rg Ieee.double x - Ieee.double.infRung) == rg Ieee.double x - Ieee.double.infRung
theorem ext_num (nm : String) (way : Ieee.Toward) (x : Nat) (n : isN x = false) : Extern.MathFloor.toIntegral nm way #[.float .f64 x] = pure (.float .f64 (itV way x)) := by
  have ei := d_inf
  have h := isN_false.1 n
  unfold itV
  by_cases c : mg x < 9218868437227405312
  · obtain ⟨m, a, e, _⟩ := read_fin Ieee.double x (by rw [rg_d]; omega)
    show (match Ieee.double.read x with | .nan _ _ => _ | _ => _) = _
    rw [e]; rfl
  · show (match Ieee.double.read x with | .nan _ _ => _ | _ => _) = _
    rw [read_inf Ieee.double x d_he (by rw [rg_d]; omega)]; rfl
theorem ext_nan (nm : String) (way : Ieee.Toward) (x : Nat) (n : isN x = true) (q : qNaN x = true) : Extern.MathFloor.toIntegral nm way #[.float .f64 x] = pure (.float .f64 x) := by
  have ei := d_inf
  have h := isN_true.1 n
  unfold qNaN at q
  show (match Ieee.double.read x with | .nan _ _ => _ | _ => _) = _
  rw [read_nan Ieee.double x d_he (by rw [rg_d]; omega)]
  dsimp only
  rw [if_pos (by simpa using q)]
theorem ext_snan (nm : String) (way : Ieee.Toward) (x : Nat) (n : isN x = true) (q : qNaN x = false) (P : Program) (w : World) : (Extern.MathFloor.toIntegral nm way #[.float .f64 x]).run P w = .ok (.float .f64 (snan w x)) w.drew := by
  have ei := d_inf
  have h := isN_true.1 n
  unfold qNaN at q
  show Sem.run P (match Ieee.double.read x with | .nan _ _ => _ | _ => _) w = _
  rw [read_nan Ieee.double x d_he (by rw [rg_d]; omega)]
  dsimp only
  rw [if_neg (by simpa using q)]
  simp [Question.forced, snan]

theorem run_even (x : Nat) (w : World) (n : isN x = false) : (callFunc 137 #[.float .f64 x]).run Tryz.prog w = .ok (.value (.float .f64 (itV .even x))) w := by
  rw [run_callFunc_extern (e := Extern.MathFloor.toIntegral "math.RoundToEven" .even) Tryz.func137 (by kernel_rfl) (by kernel_rfl) (by kernel_rfl) (by kernel_rfl), ext_num _ _ x n]
  rfl
theorem run_even_nan (x : Nat) (w : World) (n : isN x = true) (q : qNaN x = true) : (callFunc 137 #[.float .f64 x]).run Tryz.prog w = .ok (.value (.float .f64 x)) w := by
  rw [run_callFunc_extern (e := Extern.MathFloor.toIntegral "math.RoundToEven" .even) Tryz.func137 (by kernel_rfl) (by kernel_rfl) (by kernel_rfl) (by kernel_rfl), ext_nan _ _ x n q]
  rfl
theorem run_even_snan (x : Nat) (w : World) (n : isN x = true) (q : qNaN x = false) : (callFunc 137 #[.float .f64 x]).run Tryz.prog w = .ok (.value (.float .f64 (snan w x))) w.drew := by
  rw [run_callFunc_extern (e := Extern.MathFloor.toIntegral "math.RoundToEven" .even) Tryz.func137 (by kernel_rfl) (by kernel_rfl) (by kernel_rfl) (by kernel_rfl), ext_snan _ _ x n q]
  rfl
set_option maxHeartbeats 1000000 in
theorem whole_at (y : Nat) (i : Int) (ok : Bool) (w : World) (hy : y < 18446744073709551616) (hi : wI y = i) (ho : wOk y = ok) :
    Calls Tryz.prog 136 #[.float .f64 y] w fun e w' => e = .returned (.tuple #[.int .i64 i, .bool ok]) ∧ w' = w := by
  have hc : wOk y = true → floatToIntVal .f64 y .i64 = some i := by intro h; rw [wI_conv hy h, hi]
  have h0 : wOk y = false → i = 0 := by intro h; rw [← hi]; unfold wI; rw [h]; rfl
  have hw : wOk y = ((fgt y 14114281232179134464 || feq y 14114281232179134464) && flt y 4890909195324358656) := rfl
  clear hi
  cases hg : (fgt y 14114281232179134464 || feq y 14114281232179134464)
  · rw [hg] at hw
    have hw' : wOk y = false := hw
    obtain rfl := h0 hw'
    obtain rfl : ok = false := by rw [← ho, hw']
    clear hw hw' h0 hc ho
    go_enter Tryz.func136, Tryz.ntmps136
    go_wp2
    go_ret2
    exact ⟨rfl, rfl⟩
  · cases hl : flt y 4890909195324358656
    · rw [hg, hl] at hw
      have hw' : wOk y = false := hw
      obtain rfl := h0 hw'
      obtain rfl : ok = false := by rw [← ho, hw']
      clear hw hw' h0 hc ho
      go_enter Tryz.func136, Tryz.ntmps136
      go_wp2
      go_ret2
      exact ⟨rfl, rfl⟩
    · rw [hg, hl] at hw
      have hw' : wOk y = true := hw
      obtain rfl : ok = true := by rw [← ho, hw']
      have hcv := fun (w : World) => run_convert_float_int (P := Tryz.prog) w 47 2 .f64 .i64 y i (by kernel_rfl) (by kernel_rfl) (hc hw')
      clear hw hw' h0 hc ho
      go_enter Tryz.func136, Tryz.ntmps136
      go_wp2
      go_ret2
      exact ⟨rfl, rfl⟩

set_option maxHeartbeats 1000000 in
theorem round_at (x : Nat) (i : Int) (ok : Bool) (w : World) (hx : x < 18446744073709551616) (hi : cI .even x = i) (ho : cOk .even x = ok) :
    Calls Tryz.prog 98 #[.float .f64 x] w fun e w' => e = .returned (.tuple #[.int .i64 i, .bool ok]) ∧ ∃ n, w' = w.drewN n := by
  cases n : isN x
  · have r := fun (w : World) => run_even x w n
    have l := itV_lt .even x
    have a := wI_itV .even x hx n
    have b := wOk_itV .even x hx n
    rw [hi] at a
    rw [ho] at b
    generalize itV .even x = y at *
    clear hi ho n
    go_enter Tryz.func98, Tryz.ntmps98
    go_wp2_with fail
    refine (whole_at y i ok _ l a b).mono ?_
    rintro e w' ⟨rfl, rfl⟩
    go_wp2
    go_ret2
    exact ⟨rfl, 0, rfl⟩
  · obtain ⟨h1, h2⟩ := cOk_nan .even n
    rw [hi] at h2
    rw [ho] at h1
    subst h1 h2
    cases q : qNaN x
    · have r := fun (w : World) => run_even_snan x w n q
      have l := fun (w : World) => (snan_nan w x hx n).1
      have l2 := fun (w : World) => wOk_nan (l w) (snan_nan w x hx n).2
      clear hi ho n q
      go_enter Tryz.func98, Tryz.ntmps98
      go_wp2_with fail
      refine (whole_at _ 0 false _ (l _) (l2 _).2 (l2 _).1).mono ?_
      rintro e w' ⟨rfl, rfl⟩
      go_wp2
      go_ret2
      exact ⟨rfl, 1, rfl⟩
    · have r := fun (w : World) => run_even_nan x w n q
      have l2 := wOk_nan hx n
      clear hi ho n q
      go_enter Tryz.func98, Tryz.ntmps98
      go_wp2_with fail
      refine (whole_at x 0 false _ hx l2.2 l2.1).mono ?_
      rintro e w' ⟨rfl, rfl⟩
      go_wp2
      go_ret2
      exact ⟨rfl, 0, rfl⟩

set_option maxHeartbeats 1000000 in
theorem fromInt_any (n : Int) (w : World) :
    Calls Tryz.prog 82 #[.int .i64 n] w fun e w' => e = .returned (.float .f64 (rn false (n * one))) ∧ w' = w := by
  have hc := fun (w : World) => run_convert_int_float (P := Tryz.prog) w 2 47 .i64 .f64 n (by kernel_rfl) (by kernel_rfl)
  have e : floatOfInt .f64 n = rn false (n * one) := ofInt_d n
  rw [e] at hc
  generalize rn false (n * one) = y at *
  clear e
  go_enter Tryz.func82, Tryz.ntmps82
  go_wp2
  go_ret
  exact ⟨rfl, rfl⟩
end Go.Proofs.YtbibhgikmnpbfaaGreatDoor
