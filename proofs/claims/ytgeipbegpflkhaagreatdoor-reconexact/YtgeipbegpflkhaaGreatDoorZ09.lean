/-
  Some of the texts of this proof, one behind the other.
-/
import Derived.Test.YtgeipbegpflkhaaGreatDoorZ08
import Derived.Test.YtgeipbegpflkhaaGreatDoorZ07
/-
  The reference's differences, cross products, lengths, units and gaps of vectors: walks over the program.
-/
namespace Go.Proofs.YtgeipbegpflkhaaGreatDoor
open Go.RowKit Tf
attribute [local go_sem] run_bits run_from raw_feq raw_fne raw_flt raw_fgt run_neg run_store_float
theorem rcanon_any (x : Nat) (w : World) : Calls Tryz.prog 72 #[.float .f64 x] w fun e w' => e = .returned (.float .f64 (canonB x)) ∧ w' = w := refCanon_any x w
set_option maxHeartbeats 2000000 in
theorem made_at (x y z a b c : Nat) (w : World) (hx : IsC x a) (hy : IsC y b) (hz : IsC z c) :
    Calls Tryz.prog 138 #[.float .f64 x, .float .f64 y, .float .f64 z] w fun e w' => e = .returned (.agg #[.float .f64 a, .float .f64 b, .float .f64 c]) ∧ Below w.heap.size w w' := by
  obtain ⟨_, x2⟩ := hx
  obtain ⟨_, y2⟩ := hy
  obtain ⟨_, z2⟩ := hz
  have CX : Hid (∀ w, Calls Tryz.prog 72 #[.float .f64 x] w fun e w' => e = .returned (.float .f64 a) ∧ w' = w) := fun w => by rw [← x2]; exact rcanon_any x w
  have CY : Hid (∀ w, Calls Tryz.prog 72 #[.float .f64 y] w fun e w' => e = .returned (.float .f64 b) ∧ w' = w) := fun w => by rw [← y2]; exact rcanon_any y w
  have CZ : Hid (∀ w, Calls Tryz.prog 72 #[.float .f64 z] w fun e w' => e = .returned (.float .f64 c) ∧ w' = w) := fun w => by rw [← z2]; exact rcanon_any z w
  have A0 := hid (bl1 w (.cells #[.float .f64 0, .float .f64 0, .float .f64 0] 130))
  have r0 := heap_alloc_new w (.cells #[.float .f64 0, .float .f64 0, .float .f64 0] 130)
  have R0 := hid r0
  clear x2 y2 z2 r0
  go_enter Tryz.func138, Tryz.ntmps138
  go_wp2_with fail
  refine (CX.out _).mono ?_
  rintro e W ⟨rfl, hW⟩
  have r1 : W.heap[w.heap.size]? = some (.cells #[.float .f64 0, .float .f64 0, .float .f64 0] 130) := by rw [hW]; exact R0.out
  have A1 : Hid (Ab w W) := by rw [hW]; exact A0.out
  obtain ⟨⟨o0, o1, o2⟩, o3, o4, o5⟩ := rowfacts r1
  have R1 := hid r1
  clear hW r1 A0 R0
  go_wp2_with fail
  refine (CY.out _).mono ?_
  rintro e W ⟨rfl, rfl⟩
  go_wp2_with fail
  refine (CZ.out _).mono ?_
  rintro e W ⟨rfl, rfl⟩
  go_wp2
  refine bodyPost_ret ?_ rfl ⟨rfl, ?_⟩
  · exact results_cell_row Tryz.results138 _ _ w.heap.size _ _ (0, 0) _ rfl (row3 R1.out) Tryz.underlying130 rfl (by kernel_rfl)
  · exact ((Ab.setk A1.out (Nat.le_refl _) _).setk (Nat.le_refl _) _).setk (Nat.le_refl _) _
set_option maxHeartbeats 1000000 in
theorem less_at (x v y u : Nat) (w : World) (hx : x < 18446744073709551616) (hv : v < 18446744073709551616) (hy : y < 18446744073709551616) (hu : u < 18446744073709551616) :
    Calls Tryz.prog 139 #[.float .f64 x, .float .f64 v, .float .f64 y, .float .f64 u] w fun e w' => ∃ r n, e = .returned (.float .f64 r) ∧ w' = w.drewN n ∧ IsC r (sbB (mlB x v) (mlB y u)) := by
  obtain ⟨p, n, hp, pq⟩ := mul_any (P := Tryz.prog) w x _ v _ (IsQ.self hx) (IsQ.self hv)
  obtain ⟨q, m, hq, qq⟩ := mul_any (P := Tryz.prog) (w.drewN n) y _ u _ (IsQ.self hy) (IsQ.self hu)
  obtain ⟨r, l, hr, rr⟩ := sub_any (P := Tryz.prog) (w.drewN (n + m)) p _ q _ pq qq
  rw [World.drewN_drewN] at hq hr
  have HQ : Hid (IsC r (sbB (mlB x v) (mlB y u))) := by
    have e1 : mlB x v = mlB (qB x) (qB v) := by unfold mlB; rw [mul_ql, mul_qr]
    have e2 : mlB y u = mlB (qB y) (qB u) := by unfold mlB; rw [mul_ql, mul_qr]
    rw [e1, e2]; exact rr
  clear pq qq rr hx hy hu hv
  go_enter Tryz.func139, Tryz.ntmps139
  go_wp2
  go_ret
  exact ⟨r, _, rfl, rfl, HQ.out⟩
set_option maxHeartbeats 1000000 in
theorem rsqrt_at (x : Nat) (w : World) :
    Calls Tryz.prog 136 #[.float .f64 x] w fun e w' => ∃ r n, e = .returned (.float .f64 r) ∧ w' = w.drewN n ∧ IsC r (rtB x) := by
  have S := hid (fun w => sqrt_at x w)
  go_enter Tryz.func136, Tryz.ntmps136
  go_wp2_with fail
  refine (S.out _).mono ?_
  rintro e w1 ⟨r, n, rfl, rfl, hq⟩
  have HQ := hid hq
  clear hq
  go_wp2
  go_ret
  exact ⟨r, n, rfl, rfl, HQ.out⟩
set_option maxHeartbeats 4000000 in
theorem rminus_at (x y z u v t : Nat) (w : World) (hx : x < 18446744073709551616) (hy : y < 18446744073709551616) (hz : z < 18446744073709551616) (hu : u < 18446744073709551616) (hv : v < 18446744073709551616) (ht : t < 18446744073709551616) :
    Calls Tryz.prog 107 #[.agg #[.float .f64 x, .float .f64 y, .float .f64 z], .agg #[.float .f64 u, .float .f64 v, .float .f64 t]] w fun e w' => e = .returned (.agg #[.float .f64 (sbB x u), .float .f64 (sbB y v), .float .f64 (sbB z t)]) ∧ Below w.heap.size w w' := by
  obtain ⟨r1, n1, k1, q1⟩ := sub_any (P := Tryz.prog) (((w.alloc (.cells #[.float .f64 x, .float .f64 y, .float .f64 z] 130)).alloc (.cells #[.float .f64 u, .float .f64 v, .float .f64 t] 130)).alloc (.cells #[.float .f64 0, .float .f64 0, .float .f64 0] 130)) x _ u _ (IsQ.self hx) (IsQ.self hu)
  obtain ⟨r2, n2, k2, q2⟩ := sub_any (P := Tryz.prog) ((((w.alloc (.cells #[.float .f64 x, .float .f64 y, .float .f64 z] 130)).alloc (.cells #[.float .f64 u, .float .f64 v, .float .f64 t] 130)).alloc (.cells #[.float .f64 0, .float .f64 0, .float .f64 0] 130)).drewN n1) y _ v _ (IsQ.self hy) (IsQ.self hv)
  obtain ⟨r3, n3, k3, q3⟩ := sub_any (P := Tryz.prog) ((((w.alloc (.cells #[.float .f64 x, .float .f64 y, .float .f64 z] 130)).alloc (.cells #[.float .f64 u, .float .f64 v, .float .f64 t] 130)).alloc (.cells #[.float .f64 0, .float .f64 0, .float .f64 0] 130)).drewN (n1 + n2)) z _ t _ (IsQ.self hz) (IsQ.self ht)
  rw [World.drewN_drewN] at k2 k3
  rw [sbB_q hu] at q1
  rw [sbB_q hv] at q2
  rw [sbB_q ht] at q3
  have CN := hid (fun w => made_at r1 r2 r3 _ _ _ w q1 q2 q3)
  have A0 := hid (bl3 w (.cells #[.float .f64 x, .float .f64 y, .float .f64 z] 130) (.cells #[.float .f64 u, .float .f64 v, .float .f64 t] 130) (.cells #[.float .f64 0, .float .f64 0, .float .f64 0] 130))
  have R0 := hid (W3rows w (.cells #[.float .f64 x, .float .f64 y, .float .f64 z] 130) (.cells #[.float .f64 u, .float .f64 v, .float .f64 t] 130) (.cells #[.float .f64 0, .float .f64 0, .float .f64 0] 130))
  clear q1 q2 q3 hx hy hz hu hv ht
  go_enter Tryz.func107, Tryz.ntmps107
  go_wp2_with fail
  refine (CN.out _).mono ?_
  rintro e w4 ⟨rfl, b4⟩
  have A4 : Hid (Ab w w4) := Ab.call (Ab.drewN A0.out _) b4
  have r0 : w4.heap[w.heap.size + 1 + 1]? = some (.cells #[.float .f64 0, .float .f64 0, .float .f64 0] 130) := Ab.heap b4 R0.out.2.2
  obtain ⟨⟨o0, o1, o2⟩, o3, o4, o5⟩ := rowfacts r0
  have R4 := hid r0
  clear r0 b4 A0 R0 k1 k2 k3
  go_wp2
  refine bodyPost_ret ?_ rfl ⟨rfl, ?_⟩
  · exact results_cell_row Tryz.results107 _ _ (w.heap.size + 1 + 1) _ _ (0, 0) _ rfl (row3 R4.out) Tryz.underlying130 rfl (by kernel_rfl)
  · exact ((Ab.setk A4.out (by omega) _).setk (by omega) _).setk (by omega) _
set_option maxHeartbeats 8000000 in
theorem rcross_at (x y z u v t : Nat) (w : World) (hx : x < 18446744073709551616) (hy : y < 18446744073709551616) (hz : z < 18446744073709551616) (hu : u < 18446744073709551616) (hv : v < 18446744073709551616) (ht : t < 18446744073709551616) :
    Calls Tryz.prog 106 #[.agg #[.float .f64 x, .float .f64 y, .float .f64 z], .agg #[.float .f64 u, .float .f64 v, .float .f64 t]] w fun e w' => e = .returned (.agg #[.float .f64 (sbB (mlB y t) (mlB z v)), .float .f64 (sbB (mlB z u) (mlB x t)), .float .f64 (sbB (mlB x v) (mlB y u))]) ∧ Below w.heap.size w w' := by
  obtain ⟨c0, hc0⟩ : ∃ c, sbB (mlB y t) (mlB z v) = c := ⟨_, rfl⟩
  obtain ⟨c1, hc1⟩ : ∃ c, sbB (mlB z u) (mlB x t) = c := ⟨_, rfl⟩
  obtain ⟨c2, hc2⟩ : ∃ c, sbB (mlB x v) (mlB y u) = c := ⟨_, rfl⟩
  rw [hc0, hc1, hc2]
  have T0 : Hid (∀ u0, Calls Tryz.prog 139 #[.float .f64 y, .float .f64 t, .float .f64 z, .float .f64 v] u0 fun e w' => ∃ r n, e = .returned (.float .f64 r) ∧ w' = u0.drewN n ∧ Hid (IsC r c0)) := fun u0 => by rw [← hc0]; exact less_at y t z v u0 hy ht hz hv
  have T1 : Hid (∀ u0, Calls Tryz.prog 139 #[.float .f64 z, .float .f64 u, .float .f64 x, .float .f64 t] u0 fun e w' => ∃ r n, e = .returned (.float .f64 r) ∧ w' = u0.drewN n ∧ Hid (IsC r c1)) := fun u0 => by rw [← hc1]; exact less_at z u x t u0 hz hu hx ht
  have T2 : Hid (∀ u0, Calls Tryz.prog 139 #[.float .f64 x, .float .f64 v, .float .f64 y, .float .f64 u] u0 fun e w' => ∃ r n, e = .returned (.float .f64 r) ∧ w' = u0.drewN n ∧ Hid (IsC r c2)) := fun u0 => by rw [← hc2]; exact less_at x v y u u0 hx hv hy hu
  have CN := hid (fun r1 r2 r3 w (q1 : IsC r1 c0) (q2 : IsC r2 c1) (q3 : IsC r3 c2) => made_at r1 r2 r3 _ _ _ w q1 q2 q3)
  have A0 := hid (bl3 w (.cells #[.float .f64 x, .float .f64 y, .float .f64 z] 130) (.cells #[.float .f64 u, .float .f64 v, .float .f64 t] 130) (.cells #[.float .f64 0, .float .f64 0, .float .f64 0] 130))
  have R0 := hid (W3rows w (.cells #[.float .f64 x, .float .f64 y, .float .f64 z] 130) (.cells #[.float .f64 u, .float .f64 v, .float .f64 t] 130) (.cells #[.float .f64 0, .float .f64 0, .float .f64 0] 130))
  clear hx hy hz hu hv ht hc0 hc1 hc2
  go_enter Tryz.func106, Tryz.ntmps106
  go_upto_region 1 with fail
  generalize hW : World.alloc _ _ = W
  have AW : Hid (Ab w W) := by rw [← hW]; exact A0.out
  have ra : W.heap[w.heap.size]? = some (.cells #[.float .f64 x, .float .f64 y, .float .f64 z] 130) := by rw [← hW]; exact R0.out.1
  have rb : W.heap[w.heap.size + 1]? = some (.cells #[.float .f64 u, .float .f64 v, .float .f64 t] 130) := by rw [← hW]; exact R0.out.2.1
  have rc : W.heap[w.heap.size + 1 + 1]? = some (.cells #[.float .f64 0, .float .f64 0, .float .f64 0] 130) := by rw [← hW]; exact R0.out.2.2
  have KS : Hid (∀ w', Abx W (w.heap.size + 1 + 1) 3 130 w' → Abx W (w.heap.size + 1 + 1) 3 130 w' ∧ w'.cell? ⟨w.heap.size, 0, none⟩ = some (.float .f64 x) ∧ w'.cell? ⟨w.heap.size, 1, none⟩ = some (.float .f64 y) ∧ w'.cell? ⟨w.heap.size, 2, none⟩ = some (.float .f64 z) ∧ w'.cell? ⟨w.heap.size + 1, 0, none⟩ = some (.float .f64 u) ∧ w'.cell? ⟨w.heap.size + 1, 1, none⟩ = some (.float .f64 v) ∧ w'.cell? ⟨w.heap.size + 1, 2, none⟩ = some (.float .f64 t) ∧ w'.frozen? ⟨w.heap.size + 1 + 1, 0, none⟩ = false ∧ w'.frozen? ⟨w.heap.size + 1 + 1, 1, none⟩ = false ∧ w'.frozen? ⟨w.heap.size + 1 + 1, 2, none⟩ = false ∧ w'.cell? ⟨w.heap.size + 1 + 1, 0, none⟩ = some (rv w' (w.heap.size + 1 + 1) 0) ∧ w'.cell? ⟨w.heap.size + 1 + 1, 1, none⟩ = some (rv w' (w.heap.size + 1 + 1) 1) ∧ w'.cell? ⟨w.heap.size + 1 + 1, 2, none⟩ = some (rv w' (w.heap.size + 1 + 1) 2)) := by
    intro w' hw
    obtain ⟨-, p3, p4, p5⟩ := rowfacts (hw.heap (by omega) ra)
    obtain ⟨-, p6, p7, p8⟩ := rowfacts (hw.heap (by omega) rb)
    exact ⟨hw, p3, p4, p5, p6, p7, p8, hw.free 0, hw.free 1, hw.free 2, hw.some (by omega), hw.some (by omega), hw.some (by omega)⟩
  have A1 : Abx W (w.heap.size + 1 + 1) 3 130 W := (Ab.refl W).x rfl rc
  clear ra rb rc hW A0 R0
  go_region_held3 (fun w' => Abx W (w.heap.size + 1 + 1) 3 130 w' ∧ w'.cell? ⟨w.heap.size, 0, none⟩ = some (.float .f64 x) ∧ w'.cell? ⟨w.heap.size, 1, none⟩ = some (.float .f64 y) ∧ w'.cell? ⟨w.heap.size, 2, none⟩ = some (.float .f64 z) ∧ w'.cell? ⟨w.heap.size + 1, 0, none⟩ = some (.float .f64 u) ∧ w'.cell? ⟨w.heap.size + 1, 1, none⟩ = some (.float .f64 v) ∧ w'.cell? ⟨w.heap.size + 1, 2, none⟩ = some (.float .f64 t) ∧ w'.frozen? ⟨w.heap.size + 1 + 1, 0, none⟩ = false ∧ w'.frozen? ⟨w.heap.size + 1 + 1, 1, none⟩ = false ∧ w'.frozen? ⟨w.heap.size + 1 + 1, 2, none⟩ = false ∧ w'.cell? ⟨w.heap.size + 1 + 1, 0, none⟩ = some (rv w' (w.heap.size + 1 + 1) 0) ∧ w'.cell? ⟨w.heap.size + 1 + 1, 1, none⟩ = some (rv w' (w.heap.size + 1 + 1) 1) ∧ w'.cell? ⟨w.heap.size + 1 + 1, 2, none⟩ = some (rv w' (w.heap.size + 1 + 1) 2)) ((refine KS.out _ ?_; (with_reducible (repeat (first | assumption | apply Abx.drew | apply Abx.drewN | apply Abx.set | (refine Abx.call ?_ (by assumption))))); done)) (first
    | (go_at_call 139; have hh := q2.out; refine (T2.out _).mono ?_; rintro e w3 ⟨r3, n3, rfl, rfl, q3⟩)
    | (go_at_call 139; have hh := q1.out; refine (T1.out _).mono ?_; rintro e w2 ⟨r2, n2, rfl, rfl, q2⟩)
    | (go_at_call 139; refine (T0.out _).mono ?_; rintro e w1 ⟨r1, n1, rfl, rfl, q1⟩)
    | (go_at_call 138; refine (CN.out _ _ _ _ q1.out q2.out q3.out).mono ?_; rintro e w4 ⟨rfl, b4⟩))
  have A2 : Abx W (w.heap.size + 1 + 1) 3 130 w4 := Abx.call (A1.drewN _) b4
  clear KS A1 b4
  go_wp2
  refine bodyPost_ret ?_ rfl ⟨rfl, ?_⟩
  · exact results_cell_row Tryz.results106 _ _ (w.heap.size + 1 + 1) _ _ (0, 0) _ rfl (set3 A2) Tryz.underlying130 rfl (by kernel_rfl)
  · exact (((A2.set 0 _).set 1 _).set 2 _).ab AW.out (by omega)
set_option maxHeartbeats 4000000 in
theorem rlength_at (x y z : Nat) (w : World) (hx : x < 18446744073709551616) (hy : y < 18446744073709551616) (hz : z < 18446744073709551616) :
    Calls Tryz.prog 105 #[.agg #[.float .f64 x, .float .f64 y, .float .f64 z]] w fun e w' => e = .returned (.float .f64 (lnB x y z)) ∧ Below w.heap.size w w' := by
  obtain ⟨T, hT⟩ : ∃ T, thB (sqB x) (sqB y) (sqB z) = T := ⟨_, rfl⟩
  obtain ⟨l, hl⟩ : ∃ l, lnB x y z = l := ⟨_, rfl⟩
  have hlT : rtB T = l := by rw [← hT, ← hl]; rfl
  rw [hl]
  obtain ⟨r1, n1, k1, q1⟩ := mul_any (P := Tryz.prog) (w.alloc (.cells #[.float .f64 x, .float .f64 y, .float .f64 z] 130)) x _ x _ (IsQ.self hx) (IsQ.self hx)
  obtain ⟨r2, n2, k2, q2⟩ := mul_any (P := Tryz.prog) ((w.alloc (.cells #[.float .f64 x, .float .f64 y, .float .f64 z] 130)).drewN n1) y _ y _ (IsQ.self hy) (IsQ.self hy)
  obtain ⟨r3, n3, k3, q3⟩ := mul_any (P := Tryz.prog) ((w.alloc (.cells #[.float .f64 x, .float .f64 y, .float .f64 z] 130)).drewN (n1 + n2)) z _ z _ (IsQ.self hz) (IsQ.self hz)
  rw [World.drewN_drewN] at k2 k3
  have e1 : IsQ r1 (sqB x) := by unfold sqB mlB; rw [← mul_ql, ← mul_qr]; exact q1
  have e2 : IsQ r2 (sqB y) := by unfold sqB mlB; rw [← mul_ql, ← mul_qr]; exact q2
  have e3 : IsQ r3 (sqB z) := by unfold sqB mlB; rw [← mul_ql, ← mul_qr]; exact q3
  have TH : Hid (∀ u0, Calls Tryz.prog 137 #[.float .f64 r1, .float .f64 r2, .float .f64 r3] u0 fun e w' => e = .returned (.float .f64 T) ∧ ∃ k, w' = u0.drewN k) := fun u0 => by
    rw [← hT, ← e1.2, ← e2.2, ← e3.2, ← thB_q]
    exact rthree_at r1 r2 r3 u0 e1.1 e2.1 e3.1
  have SQ : Hid (∀ u0, Calls Tryz.prog 136 #[.float .f64 T] u0 fun e w' => ∃ r n, e = .returned (.float .f64 r) ∧ w' = u0.drewN n ∧ Hid (IsC r l)) := fun u0 => by rw [← hlT]; exact rsqrt_at T u0
  have CN : Hid (∀ r u0, IsC r l → Calls Tryz.prog 72 #[.float .f64 r] u0 fun e w' => e = .returned (.float .f64 l) ∧ w' = u0) := fun r u0 q => by rw [← q.2]; exact rcanon_any r u0
  have A0 := hid (bl1 w (.cells #[.float .f64 x, .float .f64 y, .float .f64 z] 130))
  clear hx hy hz hT hl hlT q1 q2 q3 e1 e2 e3
  go_enter Tryz.func105, Tryz.ntmps105
  go_wp2_with fail
  refine (TH.out _).mono ?_
  rintro e w1 ⟨rfl, n4, rfl⟩
  go_wp2_with fail
  refine (SQ.out _).mono ?_
  rintro e w1 ⟨r5, n5, rfl, rfl, q5⟩
  go_wp2_with fail
  refine (CN.out _ _ q5.out).mono ?_
  rintro e w1 ⟨rfl, rfl⟩
  go_wp2
  go_ret
  exact ⟨rfl, Ab.drewN A0.out _⟩
end Go.Proofs.YtgeipbegpflkhaaGreatDoor

/-
  The reference's units of vectors, and lengths that a vector is divided by: walks over the program.
-/
namespace Go.Proofs.YtgeipbegpflkhaaGreatDoor
open Go.RowKit Tf
attribute [local go_sem] run_bits run_from raw_feq raw_fne raw_flt raw_fgt run_neg run_store_float
set_option maxHeartbeats 1000000 in
set_option maxRecDepth 100000 in
theorem refClass_at (x m : Nat) (c : Int) (w : World) (hm : Hid (mg x = m)) (hc : Hid ((if m = 0 then 0 else if m < 4503599627370496 then 1 else if m < 9218868437227405312 then 2 else if m = 9218868437227405312 then 3 else 4) = c)) :
    Calls Tryz.prog 112 #[.float .f64 x] w fun e w' => e = .returned (.int .i64 c) ∧ w' = w := by
  by_cases c0 : m = 0
  · subst c0
    go_enter Tryz.func112, Tryz.ntmps112
    go_wp2_with fail
    refine (refMag_at x _ _ hm).mono ?_
    rintro e w' ⟨rfl, rfl⟩
    go_wp2
    go_ret
    exact ⟨ret_int hc.out, rfl⟩
  · have e0 : ((m : Int) == 0) = false := by simp; omega
    by_cases c1 : m < 4503599627370496
    · have h := hc.out
      rw [if_neg c0, if_pos c1] at h
      subst h
      have e1 : decide ((m : Int) < 4503599627370496) = true := by simp; omega
      clear hc c0 c1
      go_enter Tryz.func112, Tryz.ntmps112
      go_wp2_with fail
      refine (refMag_at x _ _ hm).mono ?_
      rintro e w' ⟨rfl, rfl⟩
      go_wp2
      go_ret
      exact ⟨rfl, rfl⟩
    · by_cases c2 : m < 9218868437227405312
      · have h := hc.out
        rw [if_neg c0, if_neg c1, if_pos c2] at h
        subst h
        have e1 : decide ((m : Int) < 4503599627370496) = false := by simp; omega
        have e2 : decide ((m : Int) < 9218868437227405312) = true := by simp; omega
        clear hc c0 c1 c2
        go_enter Tryz.func112, Tryz.ntmps112
        go_wp2_with fail
        refine (refMag_at x _ _ hm).mono ?_
        rintro e w' ⟨rfl, rfl⟩
        go_wp2
        go_ret
        exact ⟨rfl, rfl⟩
      · by_cases c3 : m = 9218868437227405312
        · have h := hc.out
          rw [if_neg c0, if_neg c1, if_neg c2, if_pos c3] at h
          subst h
          clear hc
          subst c3
          go_enter Tryz.func112, Tryz.ntmps112
          go_wp2_with fail
          refine (refMag_at x _ _ hm).mono ?_
          rintro e w' ⟨rfl, rfl⟩
          go_wp2
          go_ret
          exact ⟨rfl, rfl⟩
        · have e3 : ((m : Int) == 9218868437227405312) = false := by simp; omega
          have h := hc.out
          rw [if_neg c0, if_neg c1, if_neg c2, if_neg c3] at h
          subst h
          have e1 : decide ((m : Int) < 4503599627370496) = false := by simp; omega
          have e2 : decide ((m : Int) < 9218868437227405312) = false := by simp; omega
          clear hc c0 c1 c2 c3
          go_enter Tryz.func112, Tryz.ntmps112
          go_wp2_with fail
          refine (refMag_at x _ _ hm).mono ?_
          rintro e w' ⟨rfl, rfl⟩
          go_wp2
          go_ret
          exact ⟨rfl, rfl⟩
theorem refClass_any (x : Nat) (w : World) :
    Calls Tryz.prog 112 #[.float .f64 x] w fun e w' => e = .returned (.int .i64 (classB x)) ∧ w' = w :=
  refClass_at x (mg x) (classB x) w rfl rfl
open Ieee in
theorem rtB_ng (x : Nat) : ng (rtB x) = false := by
  have key : ∀ r, double.sqrt x = some r → ng (canonB r) = false := by
    intro r h
    unfold Format.sqrt at h
    cases e : double.read x with
    | nan s f => rw [e] at h; simp [Datum.root] at h
    | infinity s =>
      rw [e] at h
      cases s
      · simp [Datum.root, Format.write] at h; subst h; decide
      · simp [Datum.root] at h
    | number s m i =>
      rw [e] at h
      unfold Datum.root at h
      dsimp only at h
      by_cases hm : m = 0
      · rw [if_pos hm] at h
        simp only [Option.map_some, Option.some.injEq, Format.write, Format.nearest, hm, if_true] at h
        subst h
        cases s <;> decide
      · rw [if_neg hm] at h
        cases s
        · simp only [Bool.false_eq_true, if_false, Option.map_some, Option.some.injEq, Format.write] at h
          subst h
          have hw : ∀ a b, double.nearest false a b ≤ 9218868437227405312 := by
            intro a b
            unfold Format.nearest
            split
            · rw [d_word]; simp
            · rw [d_word, d_inf]; simp only [Bool.false_eq_true, if_false]; exact Nat.min_le_right _ _
          generalize hq : double.nearest false _ _ = q
          have hle : q ≤ 9218868437227405312 := by rw [← hq]; exact hw _ _
          unfold canonB
          split
          · decide
          · split
            · decide
            · exact ng_of_lt (by omega)
        · simp at h
  cases h : double.sqrt x with
  | none => rw [rtB_none h]; decide
  | some r => rw [rtB_some h]; exact key r h
theorem rtB_lt (x : Nat) : rtB x < 18446744073709551616 := by
  cases h : Ieee.double.sqrt x with
  | none => rw [rtB_none h]; decide
  | some r => rw [rtB_some h]; exact canon_lt (sqrt_lt h)
/-- of a length: lives, or what class it has -/
theorem lv_class {l : Nat} (hl : l < 18446744073709551616) (hn : ng l = false) : lvB l = (classB l == 1 || classB l == 2) := by
  unfold lvB
  rw [fgt_rk l 0 hl (by decide), fgt_rk l _ hl (by decide)]
  have e1 : rk 0 = 0 := by decide
  have e2 : rk 9218868437227405311 = 9218868437227405311 := by decide
  have e3 : isN 0 = false := by decide
  have e4 : isN 9218868437227405311 = false := by decide
  have e5 : rk l = (mg l : Int) := by unfold rk; rw [hn]; rfl
  rw [e1, e2, e3, e4, e5]
  unfold classB isN
  by_cases a : mg l = 0
  · simp [a]
  · rw [if_neg a]
    by_cases b : mg l < 4503599627370496
    · rw [if_pos b]
      have : ¬ 9218868437227405312 < mg l := by omega
      simp [this]; omega
    · rw [if_neg b]
      by_cases c : mg l < 9218868437227405312
      · rw [if_pos c]
        have : ¬ 9218868437227405312 < mg l := by omega
        simp [this]; omega
      · rw [if_neg c]
        by_cases d : mg l = 9218868437227405312
        · rw [if_pos d]; simp [d]
        · rw [if_neg d]
          have : 9218868437227405312 < mg l := by omega
          simp [this]
set_option maxHeartbeats 8000000 in
theorem runit_at (x y z : Nat) (w : World) (hx : x < 18446744073709551616) (hy : y < 18446744073709551616) (hz : z < 18446744073709551616) :
    Calls Tryz.prog 150 #[.agg #[.float .f64 x, .float .f64 y, .float .f64 z]] w fun e w' => e = .returned (.agg #[.float .f64 (unB (lnB x y z) x), .float .f64 (unB (lnB x y z) y), .float .f64 (unB (lnB x y z) z)]) ∧ Below w.heap.size w w' := by
  have LN := hid (fun w => rlength_at x y z w hx hy hz)
  obtain ⟨l, hl⟩ : ∃ l, lnB x y z = l := ⟨_, rfl⟩
  have hlt : l < 18446744073709551616 := by rw [← hl]; exact rtB_lt _
  have hng : ng l = false := by rw [← hl]; exact rtB_ng _
  rw [hl]
  rw [hl] at LN
  have lc := lv_class hlt hng
  obtain ⟨c, hc⟩ : ∃ c, classB l = c := ⟨_, rfl⟩
  rw [hc] at lc
  have IF : Hid (∀ w, Calls Tryz.prog 112 #[.float .f64 l] w fun e w' => e = .returned (.int .i64 c) ∧ w' = w) := fun w => by rw [← hc]; exact refClass_any l w
  have hcr : c = 0 ∨ c = 1 ∨ c = 2 ∨ c = 3 ∨ c = 4 := by
    rw [← hc]; unfold classB; repeat' split
    all_goals simp
  have A0 := hid (bl2 w (.cells #[.float .f64 x, .float .f64 y, .float .f64 z] 130) (.cells #[.float .f64 0, .float .f64 0, .float .f64 0] 130))
  have R0 := hid (And.intro (heap_alloc2_old w (.cells #[.float .f64 x, .float .f64 y, .float .f64 z] 130) (.cells #[.float .f64 0, .float .f64 0, .float .f64 0] 130)) (heap_alloc2_new w (.cells #[.float .f64 x, .float .f64 y, .float .f64 z] 130) (.cells #[.float .f64 0, .float .f64 0, .float .f64 0] 130)))
  have MZ := hid (fun w => made_at 0 0 0 0 0 0 w ⟨by decide, by decide⟩ ⟨by decide, by decide⟩ ⟨by decide, by decide⟩)
  clear hx hy hz hl hlt hng hc
  by_cases hv : lvB l = true
  · have hu : ∀ k, unB l k = dvB k l := fun k => by simp [unB, hv]
    rw [hu, hu, hu]
    have hc2 : c = 1 ∨ c = 2 := by rw [hv] at lc; simpa using lc.symm
    clear hu hv lc hcr
    rcases hc2 with rfl | rfl
    all_goals
      go_enter Tryz.func150, Tryz.ntmps150
      go_wp2_with fail
      refine (LN.out _).mono ?_
      rintro e w1 ⟨rfl, b1⟩
      have r0 : w1.heap[w.heap.size + 1]? = some (.cells #[.float .f64 0, .float .f64 0, .float .f64 0] 130) := Ab.heap b1 R0.out.2
      have ra : w1.heap[w.heap.size]? = some (.cells #[.float .f64 x, .float .f64 y, .float .f64 z] 130) := Ab.heap b1 R0.out.1
      have A1 : Hid (Ab w w1) := Ab.call A0.out b1
      obtain ⟨-, a0, a1, a2⟩ := rowfacts ra
      have R1 := hid r0
      obtain ⟨r1, n1, k1, q1⟩ := div_any (P := Tryz.prog) w1 x l
      obtain ⟨r2, n2, k2, q2⟩ := div_any (P := Tryz.prog) (w1.drewN n1) y l
      obtain ⟨r3, n3, k3, q3⟩ := div_any (P := Tryz.prog) (w1.drewN (n1 + n2)) z l
      rw [World.drewN_drewN] at k2 k3
      have CN := hid (fun w => made_at r1 r2 r3 _ _ _ w q1 q2 q3)
      clear r0 ra b1 A0 R0 q1 q2 q3
      go_wp2_with fail
      refine (IF.out _).mono ?_
      rintro e w1 ⟨rfl, rfl⟩
      go_wp2_with fail
      refine (CN.out _).mono ?_
      rintro e w4 ⟨rfl, b4⟩
      have A4 : Hid (Ab w w4) := Ab.call (Ab.drewN A1.out _) b4
      have r4 : w4.heap[w.heap.size + 1]? = some (.cells #[.float .f64 0, .float .f64 0, .float .f64 0] 130) := Ab.heap b4 R1.out
      obtain ⟨⟨o0, o1, o2⟩, o3, o4, o5⟩ := rowfacts r4
      have R4 := hid r4
      clear r4 b4 A1 R1 k1 k2 k3 a0 a1 a2
      go_wp2
      refine bodyPost_ret ?_ rfl ⟨rfl, ?_⟩
      · exact results_cell_row Tryz.results150 _ _ (w.heap.size + 1) _ _ (0, 0) _ rfl (row3 R4.out) Tryz.underlying130 rfl (by kernel_rfl)
      · exact ((Ab.setk A4.out (by omega) _).setk (by omega) _).setk (by omega) _
  · have hu : ∀ k, unB l k = 0 := fun k => by simp [unB, hv]
    rw [hu, hu, hu]
    have hc2 : c = 0 ∨ c = 3 ∨ c = 4 := by
      have h0 : lvB l = false := by simpa using hv
      rw [h0] at lc
      rcases hcr with rfl | rfl | rfl | rfl | rfl
      · exact .inl rfl
      · simp at lc
      · simp at lc
      · exact .inr (.inl rfl)
      · exact .inr (.inr rfl)
    clear hu hv lc hcr
    rcases hc2 with rfl | rfl | rfl
    all_goals
      go_enter Tryz.func150, Tryz.ntmps150
      go_wp2_with fail
      refine (LN.out _).mono ?_
      rintro e w1 ⟨rfl, b1⟩
      have r0 : w1.heap[w.heap.size + 1]? = some (.cells #[.float .f64 0, .float .f64 0, .float .f64 0] 130) := Ab.heap b1 R0.out.2
      have A1 : Hid (Ab w w1) := Ab.call A0.out b1
      have R1 := hid r0
      clear r0 b1 A0 R0
      go_wp2_with fail
      refine (IF.out _).mono ?_
      rintro e w1 ⟨rfl, rfl⟩
      go_wp2_with fail
      refine (MZ.out _).mono ?_
      rintro e w4 ⟨rfl, b4⟩
      have A4 : Hid (Ab w w4) := Ab.call A1.out b4
      have r4 : w4.heap[w.heap.size + 1]? = some (.cells #[.float .f64 0, .float .f64 0, .float .f64 0] 130) := Ab.heap b4 R1.out
      obtain ⟨⟨o0, o1, o2⟩, o3, o4, o5⟩ := rowfacts r4
      have R4 := hid r4
      clear r4 b4 A1 R1
      go_wp2
      refine bodyPost_ret ?_ rfl ⟨rfl, ?_⟩
      · exact results_cell_row Tryz.results150 _ _ (w.heap.size + 1) _ _ (0, 0) _ rfl (row3 R4.out) Tryz.underlying130 rfl (by kernel_rfl)
      · exact ((Ab.setk A4.out (by omega) _).setk (by omega) _).setk (by omega) _
end Go.Proofs.YtgeipbegpflkhaaGreatDoor

/-
  A length is no less than the parts, by plain numbers (no program).
-/
namespace Go.Proofs.YtgeipbegpflkhaaGreatDoor
open Tf Ieee
theorem rung_ge2 {d r V : Nat} (h : mv r * 2 ^ d ≤ V) : r ≤ rung 52 d V := rung_ge (by omega) h
theorem rung_le2 {d r V : Nat} (h : V ≤ mv r * 2 ^ d) : rung 52 d V ≤ r := rung_le (by omega) h
/-- how far a rounded number is off -/
theorem near_err {d V R : Nat} (hR : rung 52 d V = R) (h : 4503599627370496 ≤ R) :
    9007199254740992 * V ≤ 9007199254740993 * (mv R * 2 ^ d) ∧ 9007199254740991 * (mv R * 2 ^ d) ≤ 9007199254740992 * V := by
  obtain ⟨q, h1, h2⟩ := floor_ex 52 d V
  have hb := rung_between 52 d q V (by omega) h1 h2
  rw [hR] at hb
  have e1 : mag 52 q = mv q := rfl
  have e2 : mag 52 (q + 1) = mv (q + 1) := rfl
  rw [e1, e2] at hb
  rw [e1] at h1
  rw [e2] at h2
  have hn := mv_next q
  have hbig : ∀ r, 4503599627370496 ≤ r → 4503599627370496 * 2 ^ (r / 4503599627370496 - 1) ≤ mv r := by
    intro r hr
    rw [mv_parts hr]
    exact Nat.mul_le_mul_right _ (by omega)
  have hmono : 2 ^ (q / 4503599627370496 - 1) ≤ 2 ^ ((q + 1) / 4503599627370496 - 1) := Nat.pow_le_pow_right (by omega) (by
    have : q / 4503599627370496 ≤ (q + 1) / 4503599627370496 := Nat.div_le_div_right (by omega)
    omega)
  have key : 4503599627370496 * 2 ^ (q / 4503599627370496 - 1) ≤ mv R := by
    split at hb
    · rw [hb]
      exact Nat.le_trans (Nat.mul_le_mul_left _ hmono) (hbig (q + 1) (by omega))
    · rw [hb]; exact hbig q (by omega)
  clear hbig hmono
  generalize 2 ^ (q / 4503599627370496 - 1) = g at *
  generalize 2 ^ d = b at *
  have kb := Nat.mul_le_mul_right b key
  rw [Nat.mul_assoc] at kb
  rw [hn, Nat.add_mul] at h2
  split at hb
  · next c =>
    rw [hb, hn] at kb ⊢
    rw [hn] at c
    rw [Nat.add_mul] at kb ⊢
    rw [Nat.add_mul, Nat.add_mul] at c
    generalize mv q * b = A at *
    generalize g * b = G at *
    omega
  · next c =>
    rw [hb] at kb ⊢
    rw [hn] at c
    rw [Nat.add_mul, Nat.add_mul] at c
    generalize mv q * b = A at *
    generalize g * b = G at *
    omega
/-- a number whose square is normal -/
def Gn (x : Nat) : Prop := 4503599627370496 ≤ mg (sqB x) ∧ mg (sqB x) < 9218868437227405312
theorem sq_word {x : Nat} (hx : x < 18446744073709551616) (fx : mg x < 9218868437227405312) : sqB x = min (rung 52 1074 (mv (mg x) * mv (mg x))) 9218868437227405312 := by
  unfold sqB
  rw [mlB_some (mul_d x x hx hx fx fx), Bool.xor_self]
  simp
theorem sq_inf {x : Nat} (hx : x < 18446744073709551616) (h : mg x = 9218868437227405312) : sqB x = 9218868437227405312 := by
  unfold sqB
  rw [mlB_some (mul_ii x x hx hx h h), Bool.xor_self]
  rfl
theorem Gn.fin {x : Nat} (hx : x < 18446744073709551616) (h : Gn x) : mg x < 9218868437227405312 := by
  rcases three x with k | k | k
  · exact k
  · exfalso
    have := h.2
    rw [sq_inf hx k] at this
    exact absurd this (by decide)
  · exfalso
    have := h.2
    unfold sqB at this
    rw [mlB_none (mul_nan _ _ (.inl k))] at this
    exact absurd this (by decide)
theorem sub_small : 4503599627370496 * 4503599627370496 ≤ mv 1 * 2 ^ K := by decide +kernel
theorem Gn.norm {x : Nat} (hx : x < 18446744073709551616) (h : Gn x) : 4503599627370496 ≤ mg x := by
  rcases Nat.lt_or_ge (mg x) 4503599627370496 with k | k
  · exfalso
    have h1 := h.1
    have e0 : mg x < 2 ^ 52 := by
      have e : (2 : Nat) ^ 52 = 4503599627370496 := by decide
      omega
    have e : mv (mg x) = mg x := by unfold mv mag; rw [if_pos e0]
    have h2 : mv (mg x) * mv (mg x) ≤ mv 1 * 2 ^ K := by
      rw [e]
      exact Nat.le_trans (Nat.mul_le_mul (by omega) (by omega)) sub_small
    have h3 : rung 52 1074 (mv (mg x) * mv (mg x)) ≤ 1 := rung_le2 (d := K) h2
    rw [sq_word hx (by omega)] at h1
    generalize rung 52 1074 (mv (mg x) * mv (mg x)) = r at *
    rw [mg_of_lt (by omega)] at h1
    omega
  · exact k
/-- the square in units, and how far it is off -/
theorem Gn.err {x : Nat} (hx : x < 18446744073709551616) (h : Gn x) :
    9007199254740992 * (mv (mg x) * mv (mg x)) ≤ 9007199254740993 * (mv (mg (sqB x)) * 2 ^ K) ∧ 9007199254740991 * (mv (mg (sqB x)) * 2 ^ K) ≤ 9007199254740992 * (mv (mg x) * mv (mg x)) := by
  have hf := h.fin hx
  have e := sq_word hx hf
  obtain ⟨h1, h2⟩ := h
  have hr : rung 52 1074 (mv (mg x) * mv (mg x)) = mg (sqB x) := by
    rw [e] at h2 ⊢
    generalize rung 52 1074 (mv (mg x) * mv (mg x)) = r at *
    have hm : mg (min r 9218868437227405312) = min r 9218868437227405312 := mg_of_lt (Nat.lt_of_le_of_lt (Nat.min_le_right _ _) (by decide))
    rw [hm] at h2 ⊢
    omega
  exact near_err (d := K) hr h1
theorem mul_sq (m g : Nat) : m * g * (m * g) = m * m * (g * g) := Nat.mul_mul_mul_comm m g m g
theorem sq_plus (t : Nat) : (2 * t + 1) * (2 * t + 1) = 4 * (t * t) + 4 * t + 1 := by
  rw [Nat.add_mul, Nat.mul_add, Nat.mul_mul_mul_comm]
  omega
theorem sq_minus (t : Nat) : (2 * t + 1) * (2 * t + 1) + 4 * (t + 1) = 4 * ((t + 1) * (t + 1)) + 1 := by
  have h1 := sq_plus t
  have h5 : (t + 1) * (t + 1) = t * t + 2 * t + 1 := by rw [Nat.add_mul, Nat.mul_add]; omega
  omega
/-- halfway below x, squared, is less than its rounded square; halfway above, more -/
theorem Gn.mid {x : Nat} (hx : x < 18446744073709551616) (h : Gn x) :
    (mv (mg x - 1) + mv (mg x)) * (mv (mg x - 1) + mv (mg x)) < 4 * (mv (mg (sqB x)) * 2 ^ K) ∧ 4 * (mv (mg (sqB x)) * 2 ^ K) < (mv (mg x) + mv (mg x + 1)) * (mv (mg x) + mv (mg x + 1)) := by
  have hn := h.norm hx
  obtain ⟨e1, e2⟩ := h.err hx
  generalize mv (mg (sqB x)) * 2 ^ K = N at *
  generalize mg x = r at *
  have hp := mv_parts hn
  have hq : r % 4503599627370496 < 4503599627370496 := Nat.mod_lt _ (by omega)
  have hnx := mv_next r
  have hpv := mv_next (r - 1)
  rw [show r - 1 + 1 = r by omega] at hpv
  by_cases c : r % 4503599627370496 = 0
  · -- a power of two: below it the numbers lie closer
    rw [c, Nat.add_zero] at hp
    have hg : 2 ^ (r / 4503599627370496 - 1) ≤ 2 * 2 ^ ((r - 1) / 4503599627370496 - 1) := by
      rw [show (2 : Nat) * 2 ^ ((r - 1) / 4503599627370496 - 1) = 2 ^ (((r - 1) / 4503599627370496 - 1) + 1) by rw [Nat.pow_succ, Nat.mul_comm]]
      exact Nat.pow_le_pow_right (by omega) (by omega)
    have gp := Nat.two_pow_pos (r / 4503599627370496 - 1)
    generalize 2 ^ (r / 4503599627370496 - 1) = g at *
    generalize 2 ^ ((r - 1) / 4503599627370496 - 1) = f at *
    rw [hnx]
    generalize mv (r - 1) = A at *
    generalize mv r = X at *
    have hA : 2 * (A + X) ≤ 18014398509481983 * g := by omega
    have hA2 := Nat.mul_le_mul hA hA
    have hB : (X + (X + g)) = 9007199254740993 * g := by omega
    rw [hB, mul_sq]
    rw [hp, mul_sq] at e1 e2
    have zp : 0 < g * g := Nat.mul_pos gp gp
    have hS : 2 * (A + X) * (2 * (A + X)) = 4 * ((A + X) * (A + X)) := by rw [Nat.mul_mul_mul_comm]
    rw [hS, mul_sq 18014398509481983 g] at hA2
    generalize (A + X) * (A + X) = S at *
    generalize g * g = Z at *
    omega
  · have hd : (r - 1) / 4503599627370496 = r / 4503599627370496 := by omega
    rw [hd] at hpv
    have gp := Nat.two_pow_pos (r / 4503599627370496 - 1)
    generalize 2 ^ (r / 4503599627370496 - 1) = g at *
    obtain ⟨m, hm⟩ : ∃ m, 4503599627370496 + r % 4503599627370496 = m := ⟨_, rfl⟩
    rw [hm] at hp
    have m1 : 4503599627370496 ≤ m := by omega
    have m2 : m ≤ 9007199254740991 := by omega
    rw [hnx]
    generalize mv (r - 1) = A at *
    generalize mv r = X at *
    have hA : A + X = (2 * m - 1) * g := by
      rw [Nat.sub_mul, Nat.mul_assoc, ← hp, Nat.one_mul]
      omega
    have hB : X + (X + g) = (2 * m + 1) * g := by
      rw [Nat.add_mul, Nat.mul_assoc, ← hp, Nat.one_mul]
      omega
    rw [hA, hB, mul_sq, mul_sq]
    rw [hp, mul_sq] at e1 e2
    have zp : 0 < g * g := Nat.mul_pos gp gp
    generalize g * g = Z at *
    have q1 : (2 * m - 1) * (2 * m - 1) + 4 * m = 4 * (m * m) + 1 := by
      obtain ⟨t, rfl⟩ : ∃ t, m = t + 1 := ⟨m - 1, by omega⟩
      rw [show 2 * (t + 1) - 1 = 2 * t + 1 by omega]
      exact sq_minus t
    have q2 := sq_plus m
    have q3 : (2 * m - 1) * (2 * m - 1) * Z + 4 * (m * Z) = 4 * (m * m * Z) + Z := by
      have := congrArg (· * Z) q1
      simp only [Nat.add_mul, Nat.one_mul] at this
      rw [Nat.mul_assoc 4 m Z, Nat.mul_assoc 4 (m * m) Z] at this
      exact this
    have q4 : (2 * m + 1) * (2 * m + 1) * Z = 4 * (m * m * Z) + 4 * (m * Z) + Z := by
      rw [q2, Nat.add_mul, Nat.add_mul, Nat.one_mul, Nat.mul_assoc 4 m Z, Nat.mul_assoc 4 (m * m) Z]
    have q5 : m * m * Z ≤ 9007199254740991 * (m * Z) := by
      rw [Nat.mul_assoc]
      exact Nat.mul_le_mul_right _ m2
    have q6 : 4503599627370496 * Z ≤ m * Z := Nat.mul_le_mul_right _ m1
    rw [q4]
    generalize (2 * m - 1) * (2 * m - 1) * Z = S at *
    generalize m * m * Z = Q at *
    generalize m * Z = L at *
    omega
/-- the root of a sum that holds the square of x is no less than x -/
theorem Gn.low {x T : Nat} (hx : x < 18446744073709551616) (h : Gn x) (hT : T < 9218868437227405312) (hle : sqB x ≤ T) : mg x ≤ rtB T := by
  have hs : sqB x = mg (sqB x) := by
    have := h.fin hx
    have e := sq_word hx this
    rw [mg_of_lt]
    rw [e]
    exact Nat.lt_of_le_of_lt (Nat.min_le_right _ _) (by decide)
  have hm : mg T = T := mg_of_lt (by omega)
  have h0 := h.1
  obtain ⟨n, d, hN, hW, hr, _, _⟩ := sqrt_core (T := T) (by omega) (ng_of_lt (by omega)) (by omega) (by omega)
  rw [hr]
  have hm1 := (h.mid hx).1
  have hn := h.norm hx
  have h3 := rt_low (n := n) (d := d) (r := mg x - 1) hW (by
    rw [show mg x - 1 + 1 = mg x by omega]
    refine Nat.lt_of_lt_of_le hm1 ?_
    rw [← hN]
    refine Nat.mul_le_mul_left _ (Nat.mul_le_mul_right _ (mv_le.2 ?_))
    omega)
  omega
/-- the root of the square -/
theorem Gn.root {x : Nat} (hx : x < 18446744073709551616) (h : Gn x) : rtB (sqB x) = mg x := by
  have hf := h.fin hx
  have e := sq_word hx hf
  have hlt : sqB x < 9223372036854775808 := by rw [e]; exact Nat.lt_of_le_of_lt (Nat.min_le_right _ _) (by decide)
  have hs : mg (sqB x) = sqB x := mg_of_lt hlt
  have h0 := h.1
  have h2 := h.2
  have hlow := h.low hx (T := sqB x) (by omega) (Nat.le_refl _)
  obtain ⟨n, d, hN, hW, hr, _, _⟩ := sqrt_core (T := sqB x) (by omega) (ng_of_lt hlt) (by omega) (by omega)
  have hup := rt_up (n := n) (d := d) (r := mg x) hW (by rw [← hN]; exact (h.mid hx).2)
  rw [← hr] at hup
  omega
end Go.Proofs.YtgeipbegpflkhaaGreatDoor

/-
  Sums of squares, and quotients by a length, by plain numbers (no program).
-/
namespace Go.Proofs.YtgeipbegpflkhaaGreatDoor
open Tf Ieee
theorem pl_word {a b : Nat} (ha : a < 9218868437227405312) (hb : b < 9218868437227405312) : plB a b = min (rung 52 0 (mv a + mv b)) 9218868437227405312 := by
  have ma : mg a = a := mg_of_lt (by omega)
  have mb : mg b = b := mg_of_lt (by omega)
  have na : ng a = false := ng_of_lt (by omega)
  have nb : ng b = false := ng_of_lt (by omega)
  have ea : sv a = (mv a : Int) := by unfold sv; rw [na, ma]; rfl
  have eb : sv b = (mv b : Int) := by unfold sv; rw [nb, mb]; rfl
  rw [plB_some (add_d a b (by omega) (by omega) (by omega) (by omega)), na, ea, eb]
  unfold rn
  have : ¬ ((mv a : Int) + (mv b : Int) < 0) := by omega
  rw [decide_eq_false this]
  simp only [Bool.false_and, ite_self, Bool.false_eq_true, if_false]
  rw [show ((mv a : Int) + (mv b : Int)).natAbs = mv a + mv b by omega]
theorem plB_nn {a b : Nat} (ha : a ≤ 9218868437227405312) (hb : b ≤ 9218868437227405312) : plB a b ≤ 9218868437227405312 ∧ a ≤ plB a b ∧ b ≤ plB a b := by
  by_cases ca : a = 9218868437227405312
  · by_cases cb : b = 9218868437227405312
    · subst ca; subst cb; decide
    · have e := add_if a b (by omega) (by rw [ca]; decide) (by rw [mg_of_lt (by omega)]; omega)
      rw [plB_some e, ng_of_lt (by omega)]
      show 9218868437227405312 ≤ _ ∧ _ ≤ 9218868437227405312 ∧ _ ≤ 9218868437227405312
      omega
  · by_cases cb : b = 9218868437227405312
    · have e := add_fi a b (by omega) (by rw [mg_of_lt (by omega)]; omega) (by rw [cb]; decide)
      rw [plB_some e, ng_of_lt (by omega)]
      show 9218868437227405312 ≤ _ ∧ _ ≤ 9218868437227405312 ∧ _ ≤ 9218868437227405312
      omega
    · rw [pl_word (by omega) (by omega)]
      have h1 : a ≤ rung 52 0 (mv a + mv b) := rung_ge2 (by rw [Nat.pow_zero, Nat.mul_one]; omega)
      have h2 : b ≤ rung 52 0 (mv a + mv b) := rung_ge2 (by rw [Nat.pow_zero, Nat.mul_one]; omega)
      omega
theorem thB_nn {a b c : Nat} (ha : a ≤ 9218868437227405312) (hb : b ≤ 9218868437227405312) (hc : c ≤ 9218868437227405312) : thB a b c ≤ 9218868437227405312 ∧ a ≤ thB a b c ∧ b ≤ thB a b c ∧ c ≤ thB a b c := by
  obtain ⟨u, v, z, e, hp⟩ := th_perm a b c
  rw [e]
  have hu : u ≤ 9218868437227405312 ∧ v ≤ 9218868437227405312 ∧ z ≤ 9218868437227405312 := by
    rcases hp with ⟨rfl, rfl, rfl⟩ | ⟨rfl, rfl, rfl⟩ | ⟨rfl, rfl, rfl⟩ | ⟨rfl, rfl, rfl⟩ | ⟨rfl, rfl, rfl⟩ | ⟨rfl, rfl, rfl⟩ <;> exact ⟨by assumption, by assumption, by assumption⟩
  obtain ⟨p1, p2, p3⟩ := plB_nn hu.1 hu.2.1
  obtain ⟨q1, q2, q3⟩ := plB_nn p1 hu.2.2
  clear e
  generalize plB u v = p at *
  generalize plB p z = q at *
  rcases hp with ⟨rfl, rfl, rfl⟩ | ⟨rfl, rfl, rfl⟩ | ⟨rfl, rfl, rfl⟩ | ⟨rfl, rfl, rfl⟩ | ⟨rfl, rfl, rfl⟩ | ⟨rfl, rfl, rfl⟩ <;> omega
theorem sq_nn {x : Nat} (hx : x < 18446744073709551616) (h : isN x = false) : sqB x ≤ 9218868437227405312 := by
  rcases three x with k | k | k
  · rw [sq_word hx k]; exact Nat.min_le_right _ _
  · rw [sq_inf hx k]; omega
  · rw [h] at k; cases k
theorem sq_nan {x : Nat} (h : isN x = true) : sqB x = quiet := by unfold sqB; exact mlB_none (mul_nan _ _ (.inl h))
theorem sq_zero {x : Nat} (hx : x < 18446744073709551616) (h : mg x = 0) : sqB x = 0 := by
  rw [sq_word hx (by omega), h, mv_zero, Nat.mul_zero, rung_none, Nat.zero_min]
theorem rt_zero : rtB 0 = 0 := by decide +kernel
theorem rt_inf : rtB 9218868437227405312 = 9218868437227405312 := by decide +kernel
theorem rt_quiet : rtB quiet = quiet := by decide +kernel
theorem rt_sub {T : Nat} (h0 : 0 < T) (h1 : T < 4503599627370496) : 0 < rtB T ∧ rtB T ≤ 9218868437227405312 := by
  have hm : mg T = T := mg_of_lt (by omega)
  have hr : double.read T = .number false T double.leastPlace := by
    unfold Format.read
    simp only [d_sw, d_bin, d_inf]
    have hmg : T % 9223372036854775808 = T := by omega
    rw [hmg, if_pos h1]
    have : (T / 9223372036854775808 % 2 == 1) = false := by rw [show T / 9223372036854775808 = 0 by omega]; rfl
    rw [this]
  have e1 : double.sqrt T = some (double.nearest false (rtW T (rtM T double.leastPlace)) ((double.leastPlace - (rtM T double.leastPlace : Nat)) / 2 - 1)) := by
    show ((double.read T).root 54).map double.write = _
    rw [hr, root_eq _ (by omega)]
    rfl
  have hlp := d_lp
  have hs : rtM T double.leastPlace ≤ 109 := by unfold rtM; omega
  generalize rtM T double.leastPlace = s at *
  have hW : 1 ≤ rtW T s := by
    obtain ⟨a, b⟩ := isq_spec (T <<< s)
    unfold rtW
    have hn : 1 ≤ T <<< s := by
      rw [Nat.shiftLeft_eq]
      exact Nat.mul_pos h0 (Nat.two_pow_pos s)
    generalize isq (T <<< s) = q at *
    rcases Nat.eq_zero_or_pos q with k | k
    · subst k; omega
    · omega
  generalize rtW T s = W at *
  obtain ⟨d, hd⟩ : ∃ d : Nat, (double.leastPlace - (s : Int)) / 2 - 1 = double.leastPlace + (d : Int) := ⟨((double.leastPlace - (s : Int)) / 2 - 1 - double.leastPlace).toNat, by omega⟩
  rw [nearest_up double false W d _ hd, d_word, d_inf] at e1
  have hfb : double.fractionBits = 52 := rfl
  rw [hfb] at e1
  have h2 : 1 ≤ rung 52 0 (W * 2 ^ d) := rung_ge2 (by
    rw [Nat.pow_zero, Nat.mul_one, show mv 1 = 1 by decide]
    exact Nat.mul_pos hW (Nat.two_pow_pos d))
  generalize rung 52 0 (W * 2 ^ d) = r at *
  simp only [Bool.false_eq_true, if_false] at e1
  have h3 : 1 ≤ min r 9218868437227405312 := by omega
  have h4 : min r 9218868437227405312 ≤ 9218868437227405312 := Nat.min_le_right _ _
  generalize min r 9218868437227405312 = q at *
  have hmq : mg q = q := mg_of_lt (by omega)
  have c1 : canonB q = q := by unfold canonB; rw [if_neg (by rw [isN_true]; omega), if_neg (by omega)]
  rw [rtB_some e1, c1]
  omega
/-- the root of a number that is no less than nothing -/
theorem rt_nn {T : Nat} (h : T ≤ 9218868437227405312) : rtB T ≤ 9218868437227405312 ∧ (rtB T = 0 → T = 0) ∧ (4503599627370496 ≤ T → 4503599627370496 ≤ rtB T) ∧ (4503599627370496 ≤ T → T < 9218868437227405312 → rtB T < 9218868437227405312) := by
  by_cases c0 : T = 0
  · subst c0; rw [rt_zero]; exact ⟨by omega, fun _ => rfl, by omega, by omega⟩
  · by_cases c1 : T < 4503599627370496
    · obtain ⟨a, b⟩ := rt_sub (T := T) (by omega) c1
      exact ⟨b, by omega, by omega, by omega⟩
    · by_cases c2 : T = 9218868437227405312
      · subst c2; rw [rt_inf]; exact ⟨by omega, by omega, by omega, by omega⟩
      · have hm : mg T = T := mg_of_lt (by omega)
        obtain ⟨_, _, _, _, _, a, b⟩ := sqrt_core (T := T) (by omega) (ng_of_lt (by omega)) (by omega) (by omega)
        exact ⟨by omega, by omega, fun _ => a, fun _ _ => by omega⟩
end Go.Proofs.YtgeipbegpflkhaaGreatDoor

/-
  A unit's parts, and what a length is, by plain numbers (no program).
-/
namespace Go.Proofs.YtgeipbegpflkhaaGreatDoor
open Tf Ieee
theorem mv_ONE : mv 4607182418800017408 = 2 ^ K := one_pow
theorem wd_word (s : Bool) (r : Nat) : double.word s r = wd s r := d_word s r
/-- the nearest word to no more than 1 -/
theorem near_one {s : Bool} {W e : Nat} {p : Int} (hp : p = -(e : Int)) (hW : W ≤ 2 ^ e) : ∃ r, r ≤ 4607182418800017408 ∧ double.nearest s W p = wd s r := by
  have hlp := lp_K
  have hfb : double.fractionBits = 52 := rfl
  by_cases c : e ≤ K
  · obtain ⟨d, hd⟩ : ∃ d, e + d = K := ⟨K - e, by omega⟩
    have e1 := nearest_up double s W d p (by rw [hlp, hp]; omega)
    rw [hfb, d_inf, wd_word] at e1
    have h1 : rung 52 0 (W * 2 ^ d) ≤ 4607182418800017408 := rung_le2 (by
      rw [mv_ONE, Nat.pow_zero, Nat.mul_one, ← hd, Nat.pow_add]
      exact Nat.mul_le_mul_right _ hW)
    exact ⟨min (rung 52 0 (W * 2 ^ d)) 9218868437227405312, Nat.le_trans (Nat.min_le_left _ _) h1, e1⟩
  · obtain ⟨d, hd⟩ : ∃ d, K + d = e := ⟨e - K, by omega⟩
    have e1 := nearest_rung double s W d
    rw [hfb, d_inf, wd_word] at e1
    have h1 : rung 52 d W ≤ 4607182418800017408 := rung_le2 (by
      rw [mv_ONE, ← Nat.pow_add, hd]
      exact hW)
    have e2 : p = double.leastPlace - (d : Int) := by rw [hlp, hp]; omega
    rw [← e2] at e1
    exact ⟨min (rung 52 d W) 9218868437227405312, Nat.le_trans (Nat.min_le_left _ _) h1, e1⟩
theorem quo_le {m n a b : Nat} (m1 : 4503599627370496 ≤ m) (m2 : m < 9007199254740992) (n1 : 4503599627370496 ≤ n) (hab : a < b ∨ (a = b ∧ m ≤ n)) :
    2 * (m <<< 54 / n) + (m <<< 54 % n != 0).toNat ≤ 2 ^ (55 + (b - a)) := by
  have hs : m <<< 54 = m * 18014398509481984 := by rw [Nat.shiftLeft_eq]
  have hdm := Nat.div_add_mod (m <<< 54) n
  have hml := Nat.mod_lt (m <<< 54) (show n > 0 by omega)
  have hc : (m <<< 54 % n != 0).toNat ≤ 1 := by cases (m <<< 54 % n != 0) <;> decide
  have hz : m <<< 54 % n = 0 → (m <<< 54 % n != 0).toNat = 0 := by intro h; rw [h]; rfl
  rw [hs] at *
  generalize (m * 18014398509481984 % n != 0).toNat = c at *
  generalize m * 18014398509481984 % n = r at *
  generalize m * 18014398509481984 / n = q at *
  have e55 : (2 : Nat) ^ 55 = 36028797018963968 := by decide
  have e56 : (2 : Nat) ^ 56 = 72057594037927936 := by decide
  rcases hab with h | ⟨h, hmn⟩
  · have hp : 2 ^ 56 ≤ 2 ^ (55 + (b - a)) := Nat.pow_le_pow_right (by omega) (by omega)
    have hq : q < 36028797018963968 := by
      rcases Nat.lt_or_ge q 36028797018963968 with k | k
      · exact k
      · exfalso
        have := Nat.mul_le_mul n1 k
        have h2 : n * 36028797018963968 ≤ n * q := Nat.mul_le_mul_left _ k
        omega
    omega
  · subst h
    rw [Nat.sub_self, Nat.add_zero, e55]
    rcases Nat.lt_or_ge q 18014398509481984 with k | k
    · omega
    · have h2 : n * 18014398509481984 ≤ n * q := Nat.mul_le_mul_left _ k
      rcases Nat.lt_or_ge 18014398509481984 q with k2 | k2
      · exfalso
        have h3 : n * 18014398509481985 ≤ n * q := Nat.mul_le_mul_left _ k2
        omega
      · have hq : q = 18014398509481984 := by omega
        rw [hq] at hdm
        have hr : r = 0 := by omega
        have h4 := hz hr
        omega
/-- a part over a length that is no less -/
theorem dv_one {x l : Nat} (hx : x < 18446744073709551616) (l1 : 4503599627370496 ≤ l) (l2 : l < 9218868437227405312) (hxl : mg x ≤ l) (hx0 : mg x = 0 ∨ 4503599627370496 ≤ mg x) :
    ∃ r, r ≤ 4607182418800017408 ∧ (dvB x l = 0 ∨ dvB x l = wd (ng x) r) ∧ (mg x = 0 → dvB x l = 0) := by
  have ml : mg l = l := mg_of_lt (by omega)
  have nl : ng l = false := ng_of_lt (by omega)
  have el := read_norm (x := l) (by omega) (by omega)
  rw [ml, sgn_ng (by omega), nl] at el
  have hn : 4503599627370496 + l % 4503599627370496 ≠ 0 := by omega
  rcases hx0 with h0 | h0
  · have hz : dvB x l = 0 := by
      have e1 : double.div x l = some (wd (ng x) 0) := by
        show ((double.read x).quotient 54 (double.read l)).map double.write = _
        rw [read_zero h0, el, sgn_ng hx]
        generalize 4503599627370496 + l % 4503599627370496 = n at *
        unfold Datum.quotient
        dsimp only
        rw [if_neg hn]
        simp only [Option.map_some, Format.write, Format.nearest, Nat.zero_shiftLeft, Nat.zero_div, Nat.zero_mod, Nat.mul_zero, Bool.xor_false]
        rw [wd_word]
        rfl
      rw [dvB_some e1]
      unfold canonB
      rw [wd_mg (by omega)]
      rw [if_neg (by unfold isN; rw [wd_mg (by omega)]; decide), if_pos rfl]
    exact ⟨0, by omega, .inl hz, fun _ => hz⟩
  · have ex := read_norm (x := x) h0 (by omega)
    rw [sgn_ng hx] at ex
    have lx : (4503599627370496 + mg x % 4503599627370496).log2 = 52 := log_m _ (Nat.mod_lt _ (by omega))
    have ll : (4503599627370496 + l % 4503599627370496).log2 = 52 := log_m _ (Nat.mod_lt _ (by omega))
    have hq := quo_le (m := 4503599627370496 + mg x % 4503599627370496) (n := 4503599627370496 + l % 4503599627370496) (a := mg x / 4503599627370496 - 1) (b := l / 4503599627370496 - 1) (by omega) (by have := Nat.mod_lt (mg x) (show 4503599627370496 > 0 by omega); omega) (by omega) (by omega)
    have hab : mg x / 4503599627370496 - 1 ≤ l / 4503599627370496 - 1 := by
      have := Nat.div_le_div_right (c := 4503599627370496) hxl
      omega
    have e1 : double.div x l = some (double.nearest (ng x) (2 * ((4503599627370496 + mg x % 4503599627370496) <<< 54 / (4503599627370496 + l % 4503599627370496)) + ((4503599627370496 + mg x % 4503599627370496) <<< 54 % (4503599627370496 + l % 4503599627370496) != 0).toNat) (double.leastPlace + ((mg x / 4503599627370496 - 1 : Nat) : Int) - (double.leastPlace + ((l / 4503599627370496 - 1 : Nat) : Int)) - (54 : Nat) - 1)) := by
      show ((double.read x).quotient 54 (double.read l)).map double.write = _
      rw [ex, el]
      unfold Datum.quotient
      dsimp only
      rw [if_neg hn, lx, ll]
      simp only [Bool.xor_false]
      rfl
    generalize mg x / 4503599627370496 - 1 = a at *
    generalize l / 4503599627370496 - 1 = b at *
    obtain ⟨r, r1, r2⟩ := near_one (s := ng x) (e := 55 + (b - a)) (p := double.leastPlace + (a : Int) - (double.leastPlace + (b : Int)) - (54 : Nat) - 1) (by omega) hq
    rw [r2] at e1
    refine ⟨r, r1, ?_, fun h => by omega⟩
    rw [dvB_some e1]
    unfold canonB
    rw [wd_mg (by omega), if_neg (by unfold isN; rw [wd_mg (by omega)]; simp; omega)]
    by_cases c : r = 0
    · rw [if_pos c]; exact .inl rfl
    · rw [if_neg c]; exact .inr rfl
/-- what is asked of a unit's part -/
theorem part_ok {u x r : Nat} (hx : x < 18446744073709551616) (nx : isN x = false) (hr : r ≤ 4607182418800017408) (h : u = 0 ∨ u = wd (ng x) r) (h0 : mg x = 0 → u = 0) :
    (fgt u 13830554455654793216 || feq u 13830554455654793216) = true ∧ (flt u 4607182418800017408 || feq u 4607182418800017408) = true ∧ ((flt u 0 || feq u 0) = true ∨ fgt x 0 = true) ∧ ((fgt u 0 || feq u 0) = true ∨ flt x 0 = true) := by
  have hu : u < 18446744073709551616 := by
    rcases h with h | h
    · omega
    · rw [h]; unfold wd; split <;> omega
  have hk : isN u = false ∧ -4607182418800017408 ≤ rk u ∧ rk u ≤ 4607182418800017408 ∧ (rk u ≤ 0 ∨ (ng x = false ∧ mg x ≠ 0)) ∧ (0 ≤ rk u ∨ (ng x = true ∧ mg x ≠ 0)) := by
    by_cases c : u = 0
    · subst c
      exact ⟨by decide, by decide, by decide, .inl (by decide), .inl (by decide)⟩
    · have hw := h.resolve_left c
      have hm : mg x ≠ 0 := fun e => c (h0 e)
      have hmu : mg u = r := by rw [hw]; exact wd_mg (by omega)
      have hN : isN u = false := by rw [isN_false, hmu]; omega
      have hng : ng u = ng x := by
        rw [hw]
        unfold wd
        cases ng x
        · exact ng_of_lt (by simp; omega)
        · exact ng_of_ge (by simp)
      unfold rk
      rw [hng, hmu]
      refine ⟨hN, ?_⟩
      cases k : ng x
      · simp; omega
      · simp; omega
  obtain ⟨hN, k1, k2, k3, k4⟩ := hk
  rw [fgt_rk u _ hu (by decide), feq_rk u _ hu (by decide), flt_rk u _ hu (by decide), feq_rk u 4607182418800017408 hu (by decide), flt_rk u 0 hu (by decide), feq_rk u 0 hu (by decide), fgt_rk u 0 hu (by decide), fgt_rk x 0 hx (by decide), flt_rk x 0 hx (by decide), hN, nx]
  rw [show rk 13830554455654793216 = -4607182418800017408 by decide, show rk 4607182418800017408 = 4607182418800017408 by decide, show rk 0 = 0 by decide, show isN 13830554455654793216 = false by decide, show isN 4607182418800017408 = false by decide, show isN 0 = false by decide]
  have ex : (ng x = false → rk x = mg x) ∧ (ng x = true → rk x = -(mg x : Int)) := by
    unfold rk
    exact ⟨fun h => by rw [h]; rfl, fun h => by rw [h]; rfl⟩
  simp
  refine ⟨by omega, by omega, ?_, ?_⟩
  · rcases k3 with k | ⟨k, k'⟩
    · left; omega
    · right; rw [ex.1 k]; omega
  · rcases k4 with k | ⟨k, k'⟩
    · left; omega
    · right; rw [ex.2 k]; omega
end Go.Proofs.YtgeipbegpflkhaaGreatDoor
