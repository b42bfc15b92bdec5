/-
  Differences, cross products, lengths, units and gaps of vectors: walks over the program.
-/
import Derived.Test.YtdgkmaamjdglmaaDoorNb
namespace Go.Proofs.YtdgkmaamjdglmaaDoor
open Go.RowKit Tf
attribute [local go_sem] run_bits run_from raw_feq raw_fne raw_flt raw_fgt run_neg run_store_float
theorem sbB_q {a b : Nat} (hb : b < 18446744073709551616) : sbB (qB a) (qB b) = sbB a b := addB_q (qB_lt hb) hb (qB_qB a) (qB_qB b)
theorem Abx.drewN {W w : World} {g n : Nat} {T : TypeId} (h : Abx W g n T w) (k : Nat) : Abx W g n T (w.drewN k) := h
theorem W3rows (w : World) (A B C : Obj) : (((w.alloc A).alloc B).alloc C).heap[w.heap.size]? = some A ∧ (((w.alloc A).alloc B).alloc C).heap[w.heap.size + 1]? = some B ∧ (((w.alloc A).alloc B).alloc C).heap[w.heap.size + 1 + 1]? = some C := by
  refine ⟨?_, ?_, heap_alloc3_new _ _ _ _⟩
  · rw [Below.heap_alloc _ _ _ (by simp; omega)]; exact heap_alloc2_old _ _ _
  · rw [Below.heap_alloc _ _ _ (by simp)]; exact heap_alloc2_new _ _ _
set_option maxHeartbeats 4000000 in
theorem minus_at (x y z u v t : Nat) (w : World) (hx : x < 18446744073709551616) (hy : y < 18446744073709551616) (hz : z < 18446744073709551616) (hu : u < 18446744073709551616) (hv : v < 18446744073709551616) (ht : t < 18446744073709551616) :
    Calls Tryd.prog 38 #[.agg #[.float .f64 x, .float .f64 y, .float .f64 z], .agg #[.float .f64 u, .float .f64 v, .float .f64 t]] w fun e w' => e = .returned (.agg #[.float .f64 (sbB x u), .float .f64 (sbB y v), .float .f64 (sbB z t)]) ∧ Below w.heap.size w w' := by
  obtain ⟨r1, n1, k1, q1⟩ := sub_any (P := Tryd.prog) (((w.alloc (.cells #[.float .f64 x, .float .f64 y, .float .f64 z] 29)).alloc (.cells #[.float .f64 u, .float .f64 v, .float .f64 t] 29)).alloc (.cells #[.float .f64 0, .float .f64 0, .float .f64 0] 29)) x _ u _ (IsQ.self hx) (IsQ.self hu)
  obtain ⟨r2, n2, k2, q2⟩ := sub_any (P := Tryd.prog) ((((w.alloc (.cells #[.float .f64 x, .float .f64 y, .float .f64 z] 29)).alloc (.cells #[.float .f64 u, .float .f64 v, .float .f64 t] 29)).alloc (.cells #[.float .f64 0, .float .f64 0, .float .f64 0] 29)).drewN n1) y _ v _ (IsQ.self hy) (IsQ.self hv)
  obtain ⟨r3, n3, k3, q3⟩ := sub_any (P := Tryd.prog) ((((w.alloc (.cells #[.float .f64 x, .float .f64 y, .float .f64 z] 29)).alloc (.cells #[.float .f64 u, .float .f64 v, .float .f64 t] 29)).alloc (.cells #[.float .f64 0, .float .f64 0, .float .f64 0] 29)).drewN (n1 + n2)) z _ t _ (IsQ.self hz) (IsQ.self ht)
  rw [World.drewN_drewN] at k2 k3
  rw [sbB_q hu] at q1
  rw [sbB_q hv] at q2
  rw [sbB_q ht] at q3
  have CN := hid (fun w => vcanon_at r1 r2 r3 _ _ _ w q1 q2 q3)
  have A0 := hid (bl3 w (.cells #[.float .f64 x, .float .f64 y, .float .f64 z] 29) (.cells #[.float .f64 u, .float .f64 v, .float .f64 t] 29) (.cells #[.float .f64 0, .float .f64 0, .float .f64 0] 29))
  have R0 := hid (W3rows w (.cells #[.float .f64 x, .float .f64 y, .float .f64 z] 29) (.cells #[.float .f64 u, .float .f64 v, .float .f64 t] 29) (.cells #[.float .f64 0, .float .f64 0, .float .f64 0] 29))
  clear q1 q2 q3 hx hy hz hu hv ht
  go_enter Tryd.func38, Tryd.ntmps38
  go_wp2_with fail
  refine (CN.out _).mono ?_
  rintro e w4 ⟨rfl, b4⟩
  have A4 : Hid (Ab w w4) := Ab.call (Ab.drewN A0.out _) b4
  have r0 : w4.heap[w.heap.size + 1 + 1]? = some (.cells #[.float .f64 0, .float .f64 0, .float .f64 0] 29) := Ab.heap b4 R0.out.2.2
  obtain ⟨⟨o0, o1, o2⟩, o3, o4, o5⟩ := rowfacts r0
  have R4 := hid r0
  clear r0 b4 A0 R0 k1 k2 k3
  go_wp2
  refine bodyPost_ret ?_ rfl ⟨rfl, ?_⟩
  · exact results_cell_row Tryd.results38 _ _ (w.heap.size + 1 + 1) _ _ (0, 0) _ rfl (row3 R4.out) Tryd.underlying29 rfl (by kernel_rfl)
  · exact ((Ab.setk A4.out (by omega) _).setk (by omega) _).setk (by omega) _
set_option maxHeartbeats 8000000 in
theorem cross_at (x y z u v t : Nat) (w : World) (hx : x < 18446744073709551616) (hy : y < 18446744073709551616) (hz : z < 18446744073709551616) (hu : u < 18446744073709551616) (hv : v < 18446744073709551616) (ht : t < 18446744073709551616) :
    Calls Tryd.prog 41 #[.agg #[.float .f64 x, .float .f64 y, .float .f64 z], .agg #[.float .f64 u, .float .f64 v, .float .f64 t]] w fun e w' => e = .returned (.agg #[.float .f64 (sbB (mlB y t) (mlB z v)), .float .f64 (sbB (mlB z u) (mlB x t)), .float .f64 (sbB (mlB x v) (mlB y u))]) ∧ Below w.heap.size w w' := by
  obtain ⟨c0, hc0⟩ : ∃ c, sbB (mlB y t) (mlB z v) = c := ⟨_, rfl⟩
  obtain ⟨c1, hc1⟩ : ∃ c, sbB (mlB z u) (mlB x t) = c := ⟨_, rfl⟩
  obtain ⟨c2, hc2⟩ : ∃ c, sbB (mlB x v) (mlB y u) = c := ⟨_, rfl⟩
  rw [hc0, hc1, hc2]
  have T0 : Hid (∀ u0, Calls Tryd.prog 56 #[.float .f64 y, .float .f64 z, .float .f64 v, .float .f64 t] u0 fun e w' => ∃ r n, e = .returned (.float .f64 r) ∧ w' = u0.drewN n ∧ Hid (IsC r c0)) := fun u0 => by rw [← hc0]; exact area_at y z v t u0 hy hz hv ht
  have T1 : Hid (∀ u0, Calls Tryd.prog 56 #[.float .f64 z, .float .f64 x, .float .f64 t, .float .f64 u] u0 fun e w' => ∃ r n, e = .returned (.float .f64 r) ∧ w' = u0.drewN n ∧ Hid (IsC r c1)) := fun u0 => by rw [← hc1]; exact area_at z x t u u0 hz hx ht hu
  have T2 : Hid (∀ u0, Calls Tryd.prog 56 #[.float .f64 x, .float .f64 y, .float .f64 u, .float .f64 v] u0 fun e w' => ∃ r n, e = .returned (.float .f64 r) ∧ w' = u0.drewN n ∧ Hid (IsC r c2)) := fun u0 => by rw [← hc2]; exact area_at x y u v u0 hx hy hu hv
  have CN := hid (fun r1 r2 r3 w (q1 : IsC r1 c0) (q2 : IsC r2 c1) (q3 : IsC r3 c2) => vcanon_at r1 r2 r3 _ _ _ w q1 q2 q3)
  have A0 := hid (bl3 w (.cells #[.float .f64 x, .float .f64 y, .float .f64 z] 29) (.cells #[.float .f64 u, .float .f64 v, .float .f64 t] 29) (.cells #[.float .f64 0, .float .f64 0, .float .f64 0] 29))
  have R0 := hid (W3rows w (.cells #[.float .f64 x, .float .f64 y, .float .f64 z] 29) (.cells #[.float .f64 u, .float .f64 v, .float .f64 t] 29) (.cells #[.float .f64 0, .float .f64 0, .float .f64 0] 29))
  clear hx hy hz hu hv ht hc0 hc1 hc2
  go_enter Tryd.func41, Tryd.ntmps41
  go_upto_region 1 with fail
  generalize hW : World.alloc _ _ = W
  have AW : Hid (Ab w W) := by rw [← hW]; exact A0.out
  have ra : W.heap[w.heap.size]? = some (.cells #[.float .f64 x, .float .f64 y, .float .f64 z] 29) := by rw [← hW]; exact R0.out.1
  have rb : W.heap[w.heap.size + 1]? = some (.cells #[.float .f64 u, .float .f64 v, .float .f64 t] 29) := by rw [← hW]; exact R0.out.2.1
  have rc : W.heap[w.heap.size + 1 + 1]? = some (.cells #[.float .f64 0, .float .f64 0, .float .f64 0] 29) := by rw [← hW]; exact R0.out.2.2
  have KS : Hid (∀ w', Abx W (w.heap.size + 1 + 1) 3 29 w' → Abx W (w.heap.size + 1 + 1) 3 29 w' ∧ w'.cell? ⟨w.heap.size, 0, none⟩ = some (.float .f64 x) ∧ w'.cell? ⟨w.heap.size, 1, none⟩ = some (.float .f64 y) ∧ w'.cell? ⟨w.heap.size, 2, none⟩ = some (.float .f64 z) ∧ w'.cell? ⟨w.heap.size + 1, 0, none⟩ = some (.float .f64 u) ∧ w'.cell? ⟨w.heap.size + 1, 1, none⟩ = some (.float .f64 v) ∧ w'.cell? ⟨w.heap.size + 1, 2, none⟩ = some (.float .f64 t) ∧ w'.frozen? ⟨w.heap.size + 1 + 1, 0, none⟩ = false ∧ w'.frozen? ⟨w.heap.size + 1 + 1, 1, none⟩ = false ∧ w'.frozen? ⟨w.heap.size + 1 + 1, 2, none⟩ = false ∧ w'.cell? ⟨w.heap.size + 1 + 1, 0, none⟩ = some (rv w' (w.heap.size + 1 + 1) 0) ∧ w'.cell? ⟨w.heap.size + 1 + 1, 1, none⟩ = some (rv w' (w.heap.size + 1 + 1) 1) ∧ w'.cell? ⟨w.heap.size + 1 + 1, 2, none⟩ = some (rv w' (w.heap.size + 1 + 1) 2)) := by
    intro w' hw
    obtain ⟨-, p3, p4, p5⟩ := rowfacts (hw.heap (by omega) ra)
    obtain ⟨-, p6, p7, p8⟩ := rowfacts (hw.heap (by omega) rb)
    exact ⟨hw, p3, p4, p5, p6, p7, p8, hw.free 0, hw.free 1, hw.free 2, hw.some (by omega), hw.some (by omega), hw.some (by omega)⟩
  have A1 : Abx W (w.heap.size + 1 + 1) 3 29 W := (Ab.refl W).x rfl rc
  clear ra rb rc hW A0 R0
  go_region_held3 (fun w' => Abx W (w.heap.size + 1 + 1) 3 29 w' ∧ w'.cell? ⟨w.heap.size, 0, none⟩ = some (.float .f64 x) ∧ w'.cell? ⟨w.heap.size, 1, none⟩ = some (.float .f64 y) ∧ w'.cell? ⟨w.heap.size, 2, none⟩ = some (.float .f64 z) ∧ w'.cell? ⟨w.heap.size + 1, 0, none⟩ = some (.float .f64 u) ∧ w'.cell? ⟨w.heap.size + 1, 1, none⟩ = some (.float .f64 v) ∧ w'.cell? ⟨w.heap.size + 1, 2, none⟩ = some (.float .f64 t) ∧ w'.frozen? ⟨w.heap.size + 1 + 1, 0, none⟩ = false ∧ w'.frozen? ⟨w.heap.size + 1 + 1, 1, none⟩ = false ∧ w'.frozen? ⟨w.heap.size + 1 + 1, 2, none⟩ = false ∧ w'.cell? ⟨w.heap.size + 1 + 1, 0, none⟩ = some (rv w' (w.heap.size + 1 + 1) 0) ∧ w'.cell? ⟨w.heap.size + 1 + 1, 1, none⟩ = some (rv w' (w.heap.size + 1 + 1) 1) ∧ w'.cell? ⟨w.heap.size + 1 + 1, 2, none⟩ = some (rv w' (w.heap.size + 1 + 1) 2)) ((refine KS.out _ ?_; (with_reducible (repeat (first | assumption | apply Abx.drew | apply Abx.drewN | apply Abx.set | (refine Abx.call ?_ (by assumption))))); done)) (first
    | (go_at_call 56; have hh := q2.out; refine (T2.out _).mono ?_; rintro e w3 ⟨r3, n3, rfl, rfl, q3⟩)
    | (go_at_call 56; have hh := q1.out; refine (T1.out _).mono ?_; rintro e w2 ⟨r2, n2, rfl, rfl, q2⟩)
    | (go_at_call 56; refine (T0.out _).mono ?_; rintro e w1 ⟨r1, n1, rfl, rfl, q1⟩)
    | (go_at_call 54; refine (CN.out _ _ _ _ q1.out q2.out q3.out).mono ?_; rintro e w4 ⟨rfl, b4⟩))
  have A2 : Abx W (w.heap.size + 1 + 1) 3 29 w4 := Abx.call (A1.drewN _) b4
  clear KS A1 b4
  go_wp2
  refine bodyPost_ret ?_ rfl ⟨rfl, ?_⟩
  · exact results_cell_row Tryd.results41 _ _ (w.heap.size + 1 + 1) _ _ (0, 0) _ rfl (set3 A2) Tryd.underlying29 rfl (by kernel_rfl)
  · exact (((A2.set 0 _).set 1 _).set 2 _).ab AW.out (by omega)
set_option maxHeartbeats 8000000 in
theorem length_at (x y z : Nat) (w : World) (hx : x < 18446744073709551616) (hy : y < 18446744073709551616) (hz : z < 18446744073709551616) :
    Calls Tryd.prog 37 #[.agg #[.float .f64 x, .float .f64 y, .float .f64 z]] w fun e w' => e = .returned (.float .f64 (lnB x y z)) ∧ Below w.heap.size w w' := by
  obtain ⟨T, hT⟩ : ∃ T, thB (sqB x) (sqB y) (sqB z) = T := ⟨_, rfl⟩
  obtain ⟨l, hl⟩ : ∃ l, lnB x y z = l := ⟨_, rfl⟩
  have hlT : rtB T = l := by rw [← hT, ← hl]; rfl
  rw [hl]
  have TH : Hid (∀ r1 r2 r3 u0, IsQ r1 (sqB x) → IsQ r2 (sqB y) → IsQ r3 (sqB z) → Calls Tryd.prog 52 #[.float .f64 r1, .float .f64 r2, .float .f64 r3] u0 fun e w' => e = .returned (.float .f64 T) ∧ Below u0.heap.size u0 w') := fun r1 r2 r3 u0 q1 q2 q3 => by
    rw [← hT, ← q1.2, ← q2.2, ← q3.2, ← thB_q]
    exact three_at r1 r2 r3 u0 q1.1 q2.1 q3.1
  have T0 : Hid (∀ u0, Calls Tryd.prog 53 #[.float .f64 x] u0 fun e w' => ∃ r n, e = .returned (.float .f64 r) ∧ w' = u0.drewN n ∧ Hid (IsQ r (sqB x))) := fun u0 => square_at x u0 hx
  have T1 : Hid (∀ u0, Calls Tryd.prog 53 #[.float .f64 y] u0 fun e w' => ∃ r n, e = .returned (.float .f64 r) ∧ w' = u0.drewN n ∧ Hid (IsQ r (sqB y))) := fun u0 => square_at y u0 hy
  have T2 : Hid (∀ u0, Calls Tryd.prog 53 #[.float .f64 z] u0 fun e w' => ∃ r n, e = .returned (.float .f64 r) ∧ w' = u0.drewN n ∧ Hid (IsQ r (sqB z))) := fun u0 => square_at z u0 hz
  have SQ : Hid (∀ u0, Calls Tryd.prog 51 #[.float .f64 T] u0 fun e w' => ∃ r n, e = .returned (.float .f64 r) ∧ w' = u0.drewN n ∧ Hid (IsC r l)) := fun u0 => by rw [← hlT]; exact sqrt_at T u0
  have CN : Hid (∀ r u0, IsC r l → Calls Tryd.prog 49 #[.float .f64 r] u0 fun e w' => e = .returned (.float .f64 l) ∧ w' = u0) := fun r u0 q => by rw [← q.2]; exact canon_any r u0 q.1
  have A0 := hid (bl1 w (.cells #[.float .f64 x, .float .f64 y, .float .f64 z] 29))
  have R0 := hid (heap_alloc_new w (.cells #[.float .f64 x, .float .f64 y, .float .f64 z] 29))
  clear hx hy hz hT hl hlT
  go_enter Tryd.func37, Tryd.ntmps37
  go_upto_region 1 with fail
  generalize hW : World.alloc _ _ = W
  have AW : Hid (Ab w W) := by rw [← hW]; exact A0.out
  have ra : W.heap[w.heap.size]? = some (.cells #[.float .f64 x, .float .f64 y, .float .f64 z] 29) := by rw [← hW]; exact R0.out
  have KS : Hid (∀ w', Ab W w' → Ab W w' ∧ w'.cell? ⟨w.heap.size, 0, none⟩ = some (.float .f64 x) ∧ w'.cell? ⟨w.heap.size, 1, none⟩ = some (.float .f64 y) ∧ w'.cell? ⟨w.heap.size, 2, none⟩ = some (.float .f64 z)) := by
    intro w' hw
    obtain ⟨-, p3, p4, p5⟩ := rowfacts (hw.heap ra)
    exact ⟨hw, p3, p4, p5⟩
  have A1 : Ab W W := Ab.refl W
  clear ra hW A0 R0
  go_region_held3 (fun w' => Ab W w' ∧ w'.cell? ⟨w.heap.size, 0, none⟩ = some (.float .f64 x) ∧ w'.cell? ⟨w.heap.size, 1, none⟩ = some (.float .f64 y) ∧ w'.cell? ⟨w.heap.size, 2, none⟩ = some (.float .f64 z)) ((refine KS.out _ ?_; (with_reducible (repeat (first | assumption | apply Ab.drew | apply Ab.drewN | (refine Ab.call ?_ (by assumption))))); done)) (first
    | (go_at_call 53; have hh := q2.out; refine (T2.out _).mono ?_; rintro e w3 ⟨r3, n3, rfl, rfl, q3⟩)
    | (go_at_call 53; have hh := q1.out; refine (T1.out _).mono ?_; rintro e w2 ⟨r2, n2, rfl, rfl, q2⟩)
    | (go_at_call 53; refine (T0.out _).mono ?_; rintro e w1 ⟨r1, n1, rfl, rfl, q1⟩)
    | (go_at_call 52; refine (TH.out _ _ _ _ q1.out q2.out q3.out).mono ?_; rintro e w4 ⟨rfl, b4⟩)
    | (go_at_call 51; refine (SQ.out _).mono ?_; rintro e w5 ⟨r5, n5, rfl, rfl, q5⟩)
    | (go_at_call 49; refine (CN.out _ _ q5.out).mono ?_; rintro e w6 ⟨rfl, rfl⟩))
  have A2 : Hid (Ab w w4) := Ab.call (Ab.drewN AW.out _) b4
  clear KS A1 b4
  go_wp2
  go_ret
  exact ⟨rfl, Ab.drewN A2.out _⟩
set_option maxHeartbeats 4000000 in
theorem gap_at (x y z u v t : Nat) (w : World) (hx : x < 18446744073709551616) (hy : y < 18446744073709551616) (hz : z < 18446744073709551616) (hu : u < 18446744073709551616) (hv : v < 18446744073709551616) (ht : t < 18446744073709551616) :
    Calls Tryd.prog 16 #[.agg #[.float .f64 x, .float .f64 y, .float .f64 z], .agg #[.float .f64 u, .float .f64 v, .float .f64 t]] w fun e w' => e = .returned (.float .f64 (lnB (sbB x u) (sbB y v) (sbB z t))) ∧ Below w.heap.size w w' := by
  have MI := hid (fun w => minus_at x y z u v t w hx hy hz hu hv ht)
  have LN := hid (fun w => length_at _ _ _ w (sbB_lt hx hu) (sbB_lt hy hv) (sbB_lt hz ht))
  have A0 := hid (bl2 w (.cells #[.float .f64 x, .float .f64 y, .float .f64 z] 29) (.cells #[.float .f64 u, .float .f64 v, .float .f64 t] 29))
  clear hx hy hz hu hv ht
  go_enter Tryd.func16, Tryd.ntmps16
  go_wp2_with fail
  refine (MI.out _).mono ?_
  rintro e w1 ⟨rfl, b1⟩
  go_wp2_with fail
  refine (LN.out _).mono ?_
  rintro e w2 ⟨rfl, b2⟩
  have A2 : Hid (Ab w w2) := (Ab.call A0.out b1).call b2
  clear b1 b2 A0
  go_wp2
  go_ret
  exact ⟨rfl, A2.out⟩
end Go.Proofs.YtdgkmaamjdglmaaDoor
