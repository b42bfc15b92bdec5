/-
  Some of the texts of this proof, one behind the other.
-/
import Derived.Test.YtdigecacmibkpaaGreatDoorSq05
set_option maxRecDepth 100000
set_option maxHeartbeats 400000000
namespace Go.Proofs.YtdigecacmibkpaaGreatDoor
open Go.RowKit Tf
attribute [local go_sem] run_bits run_from raw_feq raw_fne raw_flt raw_fgt run_neg run_store_float
theorem sbB_q {a b : Nat} (hb : b < 18446744073709551616) : sbB (qB a) (qB b) = sbB a b := addB_q (qB_lt hb) hb (qB_qB a) (qB_qB b)
theorem Abx.drewN {W w : World} {g n : Nat} {T : TypeId} (h : Abx W g n T w) (k : Nat) : Abx W g n T (w.drewN k) := h
theorem W3rows (w : World) (A B C : Obj) : (((w.alloc A).alloc B).alloc C).heap[w.heap.size]? = some A /\ (((w.alloc A).alloc B).alloc C).heap[w.heap.size + 1]? = some B /\ (((w.alloc A).alloc B).alloc C).heap[w.heap.size + 1 + 1]? = some C := by
  refine ⟨?_, ?_, heap_alloc3_new _ _ _ _⟩
  · rw [Below.heap_alloc _ _ _ (by simp; omega)]; exact heap_alloc2_old _ _ _
  · rw [Below.heap_alloc _ _ _ (by simp)]; exact heap_alloc2_new _ _ _
theorem minus_at (x y z u v t : Nat) (w : World) (hx : x < 18446744073709551616) (hy : y < 18446744073709551616) (hz : z < 18446744073709551616) (hu : u < 18446744073709551616) (hv : v < 18446744073709551616) (ht : t < 18446744073709551616) :
    Calls Tryz.prog 144 #[.agg #[.float .f64 x, .float .f64 y, .float .f64 z], .agg #[.float .f64 u, .float .f64 v, .float .f64 t]] w fun e w' => e = .returned (.agg #[.float .f64 (sbB x u), .float .f64 (sbB y v), .float .f64 (sbB z t)]) /\ Below w.heap.size w w' := by
  obtain ⟨r1, n1, k1, q1⟩ := sub_any (P := Tryz.prog) (((w.alloc (.cells #[.float .f64 x, .float .f64 y, .float .f64 z] 157)).alloc (.cells #[.float .f64 u, .float .f64 v, .float .f64 t] 157)).alloc (.cells #[.float .f64 0, .float .f64 0, .float .f64 0] 157)) x _ u _ (IsQ.self hx) (IsQ.self hu)
  obtain ⟨r2, n2, k2, q2⟩ := sub_any (P := Tryz.prog) ((((w.alloc (.cells #[.float .f64 x, .float .f64 y, .float .f64 z] 157)).alloc (.cells #[.float .f64 u, .float .f64 v, .float .f64 t] 157)).alloc (.cells #[.float .f64 0, .float .f64 0, .float .f64 0] 157)).drewN n1) y _ v _ (IsQ.self hy) (IsQ.self hv)
  obtain ⟨r3, n3, k3, q3⟩ := sub_any (P := Tryz.prog) ((((w.alloc (.cells #[.float .f64 x, .float .f64 y, .float .f64 z] 157)).alloc (.cells #[.float .f64 u, .float .f64 v, .float .f64 t] 157)).alloc (.cells #[.float .f64 0, .float .f64 0, .float .f64 0] 157)).drewN (n1 + n2)) z _ t _ (IsQ.self hz) (IsQ.self ht)
  rw [World.drewN_drewN] at k2 k3
  rw [sbB_q hu] at q1
  rw [sbB_q hv] at q2
  rw [sbB_q ht] at q3
  have CN := hid (fun w => vcanon_at r1 r2 r3 _ _ _ w q1 q2 q3)
  have A0 := hid (bl3 w (.cells #[.float .f64 x, .float .f64 y, .float .f64 z] 157) (.cells #[.float .f64 u, .float .f64 v, .float .f64 t] 157) (.cells #[.float .f64 0, .float .f64 0, .float .f64 0] 157))
  have R0 := hid (W3rows w (.cells #[.float .f64 x, .float .f64 y, .float .f64 z] 157) (.cells #[.float .f64 u, .float .f64 v, .float .f64 t] 157) (.cells #[.float .f64 0, .float .f64 0, .float .f64 0] 157))
  clear q1 q2 q3 hx hy hz hu hv ht
  go_enter Tryz.func144, Tryz.ntmps144
  go_wp2_with fail
  refine (CN.out _).mono ?_
  rintro e w4 ⟨rfl, b4⟩
  have A4 : Hid (Ab w w4) := Ab.call (Ab.drewN A0.out _) b4
  have r0 : w4.heap[w.heap.size + 1 + 1]? = some (.cells #[.float .f64 0, .float .f64 0, .float .f64 0] 157) := Ab.heap b4 R0.out.2.2
  obtain ⟨⟨o0, o1, o2⟩, o3, o4, o5⟩ := rowfacts r0
  have R4 := hid r0
  clear r0 b4 A0 R0 k1 k2 k3
  go_wp2
  refine bodyPost_ret ?_ rfl ⟨rfl, ?_⟩
  · exact results_cell_row Tryz.results144 _ _ (w.heap.size + 1 + 1) _ _ (0, 0) _ rfl (row3 R4.out) Tryz.underlying157 rfl (by kernel_rfl)
  · exact ((Ab.setk A4.out (by omega) _).setk (by omega) _).setk (by omega) _
theorem cross_at (x y z u v t : Nat) (w : World) (hx : x < 18446744073709551616) (hy : y < 18446744073709551616) (hz : z < 18446744073709551616) (hu : u < 18446744073709551616) (hv : v < 18446744073709551616) (ht : t < 18446744073709551616) :
    Calls Tryz.prog 143 #[.agg #[.float .f64 x, .float .f64 y, .float .f64 z], .agg #[.float .f64 u, .float .f64 v, .float .f64 t]] w fun e w' => e = .returned (.agg #[.float .f64 (sbB (mlB y t) (mlB z v)), .float .f64 (sbB (mlB z u) (mlB x t)), .float .f64 (sbB (mlB x v) (mlB y u))]) /\ Below w.heap.size w w' := by
  obtain ⟨c0, hc0⟩ : ∃ c, sbB (mlB y t) (mlB z v) = c := ⟨_, rfl⟩
  obtain ⟨c1, hc1⟩ : ∃ c, sbB (mlB z u) (mlB x t) = c := ⟨_, rfl⟩
  obtain ⟨c2, hc2⟩ : ∃ c, sbB (mlB x v) (mlB y u) = c := ⟨_, rfl⟩
  rw [hc0, hc1, hc2]
  have T0 : Hid (∀ u0, Calls Tryz.prog 169 #[.float .f64 y, .float .f64 z, .float .f64 v, .float .f64 t] u0 fun e w' => ∃ r n, e = .returned (.float .f64 r) /\ w' = u0.drewN n /\ Hid (IsC r c0)) := fun u0 => by rw [<- hc0]; exact area_at y z v t u0 hy hz hv ht
  have T1 : Hid (∀ u0, Calls Tryz.prog 169 #[.float .f64 z, .float .f64 x, .float .f64 t, .float .f64 u] u0 fun e w' => ∃ r n, e = .returned (.float .f64 r) /\ w' = u0.drewN n /\ Hid (IsC r c1)) := fun u0 => by rw [<- hc1]; exact area_at z x t u u0 hz hx ht hu
  have T2 : Hid (∀ u0, Calls Tryz.prog 169 #[.float .f64 x, .float .f64 y, .float .f64 u, .float .f64 v] u0 fun e w' => ∃ r n, e = .returned (.float .f64 r) /\ w' = u0.drewN n /\ Hid (IsC r c2)) := fun u0 => by rw [<- hc2]; exact area_at x y u v u0 hx hy hu hv
  have CN := hid (fun r1 r2 r3 w (q1 : IsC r1 c0) (q2 : IsC r2 c1) (q3 : IsC r3 c2) => vcanon_at r1 r2 r3 _ _ _ w q1 q2 q3)
  have A0 := hid (bl3 w (.cells #[.float .f64 x, .float .f64 y, .float .f64 z] 157) (.cells #[.float .f64 u, .float .f64 v, .float .f64 t] 157) (.cells #[.float .f64 0, .float .f64 0, .float .f64 0] 157))
  have R0 := hid (W3rows w (.cells #[.float .f64 x, .float .f64 y, .float .f64 z] 157) (.cells #[.float .f64 u, .float .f64 v, .float .f64 t] 157) (.cells #[.float .f64 0, .float .f64 0, .float .f64 0] 157))
  clear hx hy hz hu hv ht hc0 hc1 hc2
  go_enter Tryz.func143, Tryz.ntmps143
  go_upto_region 1 with fail
  generalize hW : World.alloc _ _ = W
  have AW : Hid (Ab w W) := by rw [<- hW]; exact A0.out
  have ra : W.heap[w.heap.size]? = some (.cells #[.float .f64 x, .float .f64 y, .float .f64 z] 157) := by rw [<- hW]; exact R0.out.1
  have rb : W.heap[w.heap.size + 1]? = some (.cells #[.float .f64 u, .float .f64 v, .float .f64 t] 157) := by rw [<- hW]; exact R0.out.2.1
  have rc : W.heap[w.heap.size + 1 + 1]? = some (.cells #[.float .f64 0, .float .f64 0, .float .f64 0] 157) := by rw [<- hW]; exact R0.out.2.2
  have KS : Hid (∀ w', Abx W (w.heap.size + 1 + 1) 3 157 w' -> Abx W (w.heap.size + 1 + 1) 3 157 w' /\ w'.cell? ⟨w.heap.size, 0, none⟩ = some (.float .f64 x) /\ w'.cell? ⟨w.heap.size, 1, none⟩ = some (.float .f64 y) /\ w'.cell? ⟨w.heap.size, 2, none⟩ = some (.float .f64 z) /\ w'.cell? ⟨w.heap.size + 1, 0, none⟩ = some (.float .f64 u) /\ w'.cell? ⟨w.heap.size + 1, 1, none⟩ = some (.float .f64 v) /\ w'.cell? ⟨w.heap.size + 1, 2, none⟩ = some (.float .f64 t) /\ w'.frozen? ⟨w.heap.size + 1 + 1, 0, none⟩ = false /\ w'.frozen? ⟨w.heap.size + 1 + 1, 1, none⟩ = false /\ w'.frozen? ⟨w.heap.size + 1 + 1, 2, none⟩ = false /\ w'.cell? ⟨w.heap.size + 1 + 1, 0, none⟩ = some (rv w' (w.heap.size + 1 + 1) 0) /\ w'.cell? ⟨w.heap.size + 1 + 1, 1, none⟩ = some (rv w' (w.heap.size + 1 + 1) 1) /\ w'.cell? ⟨w.heap.size + 1 + 1, 2, none⟩ = some (rv w' (w.heap.size + 1 + 1) 2)) := by
    intro w' hw
    obtain ⟨-, p3, p4, p5⟩ := rowfacts (hw.heap (by omega) ra)
    obtain ⟨-, p6, p7, p8⟩ := rowfacts (hw.heap (by omega) rb)
    exact ⟨hw, p3, p4, p5, p6, p7, p8, hw.free 0, hw.free 1, hw.free 2, hw.some (by omega), hw.some (by omega), hw.some (by omega)⟩
  have A1 : Abx W (w.heap.size + 1 + 1) 3 157 W := (Ab.refl W).x rfl rc
  clear ra rb rc hW A0 R0
  go_region_held3 (fun w' => Abx W (w.heap.size + 1 + 1) 3 157 w' /\ w'.cell? ⟨w.heap.size, 0, none⟩ = some (.float .f64 x) /\ w'.cell? ⟨w.heap.size, 1, none⟩ = some (.float .f64 y) /\ w'.cell? ⟨w.heap.size, 2, none⟩ = some (.float .f64 z) /\ w'.cell? ⟨w.heap.size + 1, 0, none⟩ = some (.float .f64 u) /\ w'.cell? ⟨w.heap.size + 1, 1, none⟩ = some (.float .f64 v) /\ w'.cell? ⟨w.heap.size + 1, 2, none⟩ = some (.float .f64 t) /\ w'.frozen? ⟨w.heap.size + 1 + 1, 0, none⟩ = false /\ w'.frozen? ⟨w.heap.size + 1 + 1, 1, none⟩ = false /\ w'.frozen? ⟨w.heap.size + 1 + 1, 2, none⟩ = false /\ w'.cell? ⟨w.heap.size + 1 + 1, 0, none⟩ = some (rv w' (w.heap.size + 1 + 1) 0) /\ w'.cell? ⟨w.heap.size + 1 + 1, 1, none⟩ = some (rv w' (w.heap.size + 1 + 1) 1) /\ w'.cell? ⟨w.heap.size + 1 + 1, 2, none⟩ = some (rv w' (w.heap.size + 1 + 1) 2)) ((refine KS.out _ ?_; (with_reducible (repeat (first | assumption | apply Abx.drew | apply Abx.drewN | apply Abx.set | (refine Abx.call ?_ (by assumption))))); done)) (first
    | (go_at_call 169; have hh := q2.out; refine (T2.out _).mono ?_; rintro e w3 ⟨r3, n3, rfl, rfl, q3⟩)
    | (go_at_call 169; have hh := q1.out; refine (T1.out _).mono ?_; rintro e w2 ⟨r2, n2, rfl, rfl, q2⟩)
    | (go_at_call 169; refine (T0.out _).mono ?_; rintro e w1 ⟨r1, n1, rfl, rfl, q1⟩)
    | (go_at_call 168; refine (CN.out _ _ _ _ q1.out q2.out q3.out).mono ?_; rintro e w4 ⟨rfl, b4⟩))
  have A2 : Abx W (w.heap.size + 1 + 1) 3 157 w4 := Abx.call (A1.drewN _) b4
  clear KS A1 b4
  go_wp2
  refine bodyPost_ret ?_ rfl ⟨rfl, ?_⟩
  · exact results_cell_row Tryz.results143 _ _ (w.heap.size + 1 + 1) _ _ (0, 0) _ rfl (set3 A2) Tryz.underlying157 rfl (by kernel_rfl)
  · exact (((A2.set 0 _).set 1 _).set 2 _).ab AW.out (by omega)
theorem length_at (x y z : Nat) (w : World) (hx : x < 18446744073709551616) (hy : y < 18446744073709551616) (hz : z < 18446744073709551616) :
    Calls Tryz.prog 142 #[.agg #[.float .f64 x, .float .f64 y, .float .f64 z]] w fun e w' => e = .returned (.float .f64 (lnB x y z)) /\ Below w.heap.size w w' := by
  obtain ⟨T, hT⟩ : ∃ T, thB (sqB x) (sqB y) (sqB z) = T := ⟨_, rfl⟩
  obtain ⟨l, hl⟩ : ∃ l, lnB x y z = l := ⟨_, rfl⟩
  have hlT : rtB T = l := by rw [<- hT, <- hl]; rfl
  rw [hl]
  have TH : Hid (∀ r1 r2 r3 u0, IsQ r1 (sqB x) -> IsQ r2 (sqB y) -> IsQ r3 (sqB z) -> Calls Tryz.prog 166 #[.float .f64 r1, .float .f64 r2, .float .f64 r3] u0 fun e w' => e = .returned (.float .f64 T) /\ Below u0.heap.size u0 w') := fun r1 r2 r3 u0 q1 q2 q3 => by
    rw [<- hT, <- q1.2, <- q2.2, <- q3.2, <- thB_q]
    exact three_at r1 r2 r3 u0 q1.1 q2.1 q3.1
  have T0 : Hid (∀ u0, Calls Tryz.prog 167 #[.float .f64 x] u0 fun e w' => ∃ r n, e = .returned (.float .f64 r) /\ w' = u0.drewN n /\ Hid (IsQ r (sqB x))) := fun u0 => square_at x u0 hx
  have T1 : Hid (∀ u0, Calls Tryz.prog 167 #[.float .f64 y] u0 fun e w' => ∃ r n, e = .returned (.float .f64 r) /\ w' = u0.drewN n /\ Hid (IsQ r (sqB y))) := fun u0 => square_at y u0 hy
  have T2 : Hid (∀ u0, Calls Tryz.prog 167 #[.float .f64 z] u0 fun e w' => ∃ r n, e = .returned (.float .f64 r) /\ w' = u0.drewN n /\ Hid (IsQ r (sqB z))) := fun u0 => square_at z u0 hz
  have SQ : Hid (∀ u0, Calls Tryz.prog 165 #[.float .f64 T] u0 fun e w' => ∃ r n, e = .returned (.float .f64 r) /\ w' = u0.drewN n /\ Hid (IsC r l)) := fun u0 => by rw [<- hlT]; exact sqrt_at T u0
  have CN : Hid (∀ r u0, IsC r l -> Calls Tryz.prog 52 #[.float .f64 r] u0 fun e w' => e = .returned (.float .f64 l) /\ w' = u0) := fun r u0 q => by rw [<- q.2]; exact canon_any r u0 q.1
  have A0 := hid (bl1 w (.cells #[.float .f64 x, .float .f64 y, .float .f64 z] 157))
  have R0 := hid (heap_alloc_new w (.cells #[.float .f64 x, .float .f64 y, .float .f64 z] 157))
  clear hx hy hz hT hl hlT
  go_enter Tryz.func142, Tryz.ntmps142
  go_upto_region 1 with fail
  generalize hW : World.alloc _ _ = W
  have AW : Hid (Ab w W) := by rw [<- hW]; exact A0.out
  have ra : W.heap[w.heap.size]? = some (.cells #[.float .f64 x, .float .f64 y, .float .f64 z] 157) := by rw [<- hW]; exact R0.out
  have KS : Hid (∀ w', Ab W w' -> Ab W w' /\ w'.cell? ⟨w.heap.size, 0, none⟩ = some (.float .f64 x) /\ w'.cell? ⟨w.heap.size, 1, none⟩ = some (.float .f64 y) /\ w'.cell? ⟨w.heap.size, 2, none⟩ = some (.float .f64 z)) := by
    intro w' hw
    obtain ⟨-, p3, p4, p5⟩ := rowfacts (hw.heap ra)
    exact ⟨hw, p3, p4, p5⟩
  have A1 : Ab W W := Ab.refl W
  clear ra hW A0 R0
  go_region_held3 (fun w' => Ab W w' /\ w'.cell? ⟨w.heap.size, 0, none⟩ = some (.float .f64 x) /\ w'.cell? ⟨w.heap.size, 1, none⟩ = some (.float .f64 y) /\ w'.cell? ⟨w.heap.size, 2, none⟩ = some (.float .f64 z)) ((refine KS.out _ ?_; (with_reducible (repeat (first | assumption | apply Ab.drew | apply Ab.drewN | (refine Ab.call ?_ (by assumption))))); done)) (first
    | (go_at_call 167; have hh := q2.out; refine (T2.out _).mono ?_; rintro e w3 ⟨r3, n3, rfl, rfl, q3⟩)
    | (go_at_call 167; have hh := q1.out; refine (T1.out _).mono ?_; rintro e w2 ⟨r2, n2, rfl, rfl, q2⟩)
    | (go_at_call 167; refine (T0.out _).mono ?_; rintro e w1 ⟨r1, n1, rfl, rfl, q1⟩)
    | (go_at_call 166; refine (TH.out _ _ _ _ q1.out q2.out q3.out).mono ?_; rintro e w4 ⟨rfl, b4⟩)
    | (go_at_call 165; refine (SQ.out _).mono ?_; rintro e w5 ⟨r5, n5, rfl, rfl, q5⟩)
    | (go_at_call 52; refine (CN.out _ _ q5.out).mono ?_; rintro e w6 ⟨rfl, rfl⟩))
  have A2 : Hid (Ab w w4) := Ab.call (Ab.drewN AW.out _) b4
  clear KS A1 b4
  go_wp2
  go_ret
  exact ⟨rfl, Ab.drewN A2.out _⟩
theorem gap_at (x y z u v t : Nat) (w : World) (hx : x < 18446744073709551616) (hy : y < 18446744073709551616) (hz : z < 18446744073709551616) (hu : u < 18446744073709551616) (hv : v < 18446744073709551616) (ht : t < 18446744073709551616) :
    Calls Tryz.prog 145 #[.agg #[.float .f64 x, .float .f64 y, .float .f64 z], .agg #[.float .f64 u, .float .f64 v, .float .f64 t]] w fun e w' => e = .returned (.float .f64 (lnB (sbB x u) (sbB y v) (sbB z t))) /\ Below w.heap.size w w' := by
  have MI := hid (fun w => minus_at x y z u v t w hx hy hz hu hv ht)
  have LN := hid (fun w => length_at _ _ _ w (sbB_lt hx hu) (sbB_lt hy hv) (sbB_lt hz ht))
  have A0 := hid (bl2 w (.cells #[.float .f64 x, .float .f64 y, .float .f64 z] 157) (.cells #[.float .f64 u, .float .f64 v, .float .f64 t] 157))
  clear hx hy hz hu hv ht
  go_enter Tryz.func145, Tryz.ntmps145
  go_wp2_with fail
  refine (MI.out _).mono ?_
  rintro e w1 ⟨rfl, b1⟩
  go_wp2_with fail
  refine (LN.out _).mono ?_
  rintro e w2 ⟨rfl, b2⟩
  have A2 : Hid (Ab w w2) := (Ab.call A0.out b1).call b2
  clear b1 b2 A0
  go_wp2
  go_ret
  exact ⟨rfl, A2.out⟩
end Go.Proofs.YtdigecacmibkpaaGreatDoor

namespace Go.Proofs.YtdigecacmibkpaaGreatDoor
open Go.RowKit Tf
attribute [local go_sem] run_bits run_from raw_feq raw_fne raw_flt raw_fgt run_neg run_store_float
def lvB (l : Nat) : Bool := fgt l 0 && !fgt l 9218868437227405311
def unB (l x : Nat) : Nat := if lvB l = true then dvB x l else 0
theorem unB_lt (l x : Nat) : unB l x < 18446744073709551616 := by
  unfold unB
  split
  · unfold dvB
    split
    · next r h => exact canon_lt (div_lt h)
    · decide
  · decide
theorem isInf_at (x : Nat) (w : World) :
    Calls Tryz.prog 188 #[.float .f64 x, .int .i64 1] w fun e w' => e = .returned (.bool (fgt x 9218868437227405311)) /\ w' = w := by
  go_enter Tryz.func188, Tryz.ntmps188
  go_wp2
  go_ret
  exact ⟨rfl, rfl⟩
theorem unit_at (x y z : Nat) (w : World) (hx : x < 18446744073709551616) (hy : y < 18446744073709551616) (hz : z < 18446744073709551616) :
    Calls Tryz.prog 181 #[.agg #[.float .f64 x, .float .f64 y, .float .f64 z]] w fun e w' => e = .returned (.agg #[.float .f64 (unB (lnB x y z) x), .float .f64 (unB (lnB x y z) y), .float .f64 (unB (lnB x y z) z)]) /\ Below w.heap.size w w' := by
  have LN := hid (fun w => length_at x y z w hx hy hz)
  obtain ⟨l, hl⟩ : ∃ l, lnB x y z = l := ⟨_, rfl⟩
  rw [hl]
  rw [hl] at LN
  have IF := hid (fun w => isInf_at l w)
  have A0 := hid (bl2 w (.cells #[.float .f64 x, .float .f64 y, .float .f64 z] 157) (.cells #[.float .f64 0, .float .f64 0, .float .f64 0] 157))
  have R0 := hid (And.intro (heap_alloc2_old w (.cells #[.float .f64 x, .float .f64 y, .float .f64 z] 157) (.cells #[.float .f64 0, .float .f64 0, .float .f64 0] 157)) (heap_alloc2_new w (.cells #[.float .f64 x, .float .f64 y, .float .f64 z] 157) (.cells #[.float .f64 0, .float .f64 0, .float .f64 0] 157)))
  clear hx hy hz hl
  obtain ⟨p1, hp1⟩ : ∃ p, fgt l 0 = p := ⟨_, rfl⟩
  obtain ⟨p2, hp2⟩ : ∃ p, fgt l 9218868437227405311 = p := ⟨_, rfl⟩
  rw [hp2] at IF
  cases p1 with
  | false =>
    have hu : ∀ k, unB l k = 0 := fun k => by simp [unB, lvB, hp1]
    rw [hu, hu, hu]
    clear hu
    go_enter Tryz.func181, Tryz.ntmps181
    go_wp2_with fail
    refine (LN.out _).mono ?_
    rintro e w1 ⟨rfl, b1⟩
    have r0 : w1.heap[w.heap.size + 1]? = some (.cells #[.float .f64 0, .float .f64 0, .float .f64 0] 157) := Ab.heap b1 R0.out.2
    have A1 : Hid (Ab w w1) := Ab.call A0.out b1
    obtain ⟨⟨o0, o1, o2⟩, o3, o4, o5⟩ := rowfacts r0
    have R1 := hid r0
    clear r0 b1 A0 R0
    go_wp2
    refine bodyPost_ret ?_ rfl ⟨rfl, ?_⟩
    · exact results_cell_row Tryz.results181 _ _ (w.heap.size + 1) _ _ (0, 0) _ rfl (row3 R1.out) Tryz.underlying157 rfl (by kernel_rfl)
    · exact ((Ab.setk A1.out (by omega) _).setk (by omega) _).setk (by omega) _
  | true =>
    cases p2 with
    | true =>
      have hu : ∀ k, unB l k = 0 := fun k => by simp [unB, lvB, hp2]
      rw [hu, hu, hu]
      clear hu hp2
      go_enter Tryz.func181, Tryz.ntmps181
      go_wp2_with fail
      refine (LN.out _).mono ?_
      rintro e w1 ⟨rfl, b1⟩
      have r0 : w1.heap[w.heap.size + 1]? = some (.cells #[.float .f64 0, .float .f64 0, .float .f64 0] 157) := Ab.heap b1 R0.out.2
      have A1 : Hid (Ab w w1) := Ab.call A0.out b1
      obtain ⟨⟨o0, o1, o2⟩, o3, o4, o5⟩ := rowfacts r0
      have R1 := hid r0
      clear r0 b1 A0 R0
      go_wp2_with fail
      refine (IF.out _).mono ?_
      rintro e w1 ⟨rfl, rfl⟩
      go_wp2
      refine bodyPost_ret ?_ rfl ⟨rfl, ?_⟩
      · exact results_cell_row Tryz.results181 _ _ (w.heap.size + 1) _ _ (0, 0) _ rfl (row3 R1.out) Tryz.underlying157 rfl (by kernel_rfl)
      · exact ((Ab.setk A1.out (by omega) _).setk (by omega) _).setk (by omega) _
    | false =>
      have hu : ∀ k, unB l k = dvB k l := fun k => by simp [unB, lvB, hp1, hp2]
      rw [hu, hu, hu]
      clear hu hp2
      go_enter Tryz.func181, Tryz.ntmps181
      go_wp2_with fail
      refine (LN.out _).mono ?_
      rintro e w1 ⟨rfl, b1⟩
      have r0 : w1.heap[w.heap.size + 1]? = some (.cells #[.float .f64 0, .float .f64 0, .float .f64 0] 157) := Ab.heap b1 R0.out.2
      have ra : w1.heap[w.heap.size]? = some (.cells #[.float .f64 x, .float .f64 y, .float .f64 z] 157) := Ab.heap b1 R0.out.1
      have A1 : Hid (Ab w w1) := Ab.call A0.out b1
      obtain ⟨-, a0, a1, a2⟩ := rowfacts ra
      have R1 := hid r0
      obtain ⟨r1, n1, k1, q1⟩ := div_any (P := Tryz.prog) w1 x l
      obtain ⟨r2, n2, k2, q2⟩ := div_any (P := Tryz.prog) (w1.drewN n1) y l
      obtain ⟨r3, n3, k3, q3⟩ := div_any (P := Tryz.prog) (w1.drewN (n1 + n2)) z l
      rw [World.drewN_drewN] at k2 k3
      have CN := hid (fun w => vcanon_at r1 r2 r3 _ _ _ w q1 q2 q3)
      clear r0 ra b1 A0 R0 q1 q2 q3
      go_wp2_with fail
      refine (IF.out _).mono ?_
      rintro e w1 ⟨rfl, rfl⟩
      go_wp2_with fail
      refine (CN.out _).mono ?_
      rintro e w4 ⟨rfl, b4⟩
      have A4 : Hid (Ab w w4) := Ab.call (Ab.drewN A1.out _) b4
      have r4 : w4.heap[w.heap.size + 1]? = some (.cells #[.float .f64 0, .float .f64 0, .float .f64 0] 157) := Ab.heap b4 R1.out
      obtain ⟨⟨o0, o1, o2⟩, o3, o4, o5⟩ := rowfacts r4
      have R4 := hid r4
      clear r4 b4 A1 R1 k1 k2 k3 a0 a1 a2
      go_wp2
      refine bodyPost_ret ?_ rfl ⟨rfl, ?_⟩
      · exact results_cell_row Tryz.results181 _ _ (w.heap.size + 1) _ _ (0, 0) _ rfl (row3 R4.out) Tryz.underlying157 rfl (by kernel_rfl)
      · exact ((Ab.setk A4.out (by omega) _).setk (by omega) _).setk (by omega) _
end Go.Proofs.YtdigecacmibkpaaGreatDoor

namespace Go.Proofs.YtdigecacmibkpaaGreatDoor
open Go.RowKit Tf
attribute [local go_sem] run_bits run_from raw_feq raw_fne raw_flt raw_fgt run_neg run_store_float
theorem rcanon_any (x : Nat) (w : World) : Calls Tryz.prog 57 #[.float .f64 x] w fun e w' => e = .returned (.float .f64 (canonB x)) /\ w' = w := refCanon_any x w
theorem made_at (x y z a b c : Nat) (w : World) (hx : IsC x a) (hy : IsC y b) (hz : IsC z c) :
    Calls Tryz.prog 161 #[.float .f64 x, .float .f64 y, .float .f64 z] w fun e w' => e = .returned (.agg #[.float .f64 a, .float .f64 b, .float .f64 c]) /\ Below w.heap.size w w' := by
  obtain ⟨_, x2⟩ := hx
  obtain ⟨_, y2⟩ := hy
  obtain ⟨_, z2⟩ := hz
  have CX : Hid (∀ w, Calls Tryz.prog 57 #[.float .f64 x] w fun e w' => e = .returned (.float .f64 a) /\ w' = w) := fun w => by rw [<- x2]; exact rcanon_any x w
  have CY : Hid (∀ w, Calls Tryz.prog 57 #[.float .f64 y] w fun e w' => e = .returned (.float .f64 b) /\ w' = w) := fun w => by rw [<- y2]; exact rcanon_any y w
  have CZ : Hid (∀ w, Calls Tryz.prog 57 #[.float .f64 z] w fun e w' => e = .returned (.float .f64 c) /\ w' = w) := fun w => by rw [<- z2]; exact rcanon_any z w
  have A0 := hid (bl1 w (.cells #[.float .f64 0, .float .f64 0, .float .f64 0] 157))
  have r0 := heap_alloc_new w (.cells #[.float .f64 0, .float .f64 0, .float .f64 0] 157)
  have R0 := hid r0
  clear x2 y2 z2 r0
  go_enter Tryz.func161, Tryz.ntmps161
  go_wp2_with fail
  refine (CX.out _).mono ?_
  rintro e W ⟨rfl, hW⟩
  have r1 : W.heap[w.heap.size]? = some (.cells #[.float .f64 0, .float .f64 0, .float .f64 0] 157) := by rw [hW]; exact R0.out
  have A1 : Hid (Ab w W) := by rw [hW]; exact A0.out
  obtain ⟨⟨o0, o1, o2⟩, o3, o4, o5⟩ := rowfacts r1
  have R1 := hid r1
  clear hW r1 A0 R0
  go_wp2_with fail
  refine (CY.out _).mono ?_
  rintro e W ⟨rfl, rfl⟩
  go_wp2_with fail
  refine (CZ.out _).mono ?_
  rintro e W ⟨rfl, rfl⟩
  go_wp2
  refine bodyPost_ret ?_ rfl ⟨rfl, ?_⟩
  · exact results_cell_row Tryz.results161 _ _ w.heap.size _ _ (0, 0) _ rfl (row3 R1.out) Tryz.underlying157 rfl (by kernel_rfl)
  · exact ((Ab.setk A1.out (Nat.le_refl _) _).setk (Nat.le_refl _) _).setk (Nat.le_refl _) _
theorem less_at (x v y u : Nat) (w : World) (hx : x < 18446744073709551616) (hv : v < 18446744073709551616) (hy : y < 18446744073709551616) (hu : u < 18446744073709551616) :
    Calls Tryz.prog 162 #[.float .f64 x, .float .f64 v, .float .f64 y, .float .f64 u] w fun e w' => ∃ r n, e = .returned (.float .f64 r) /\ w' = w.drewN n /\ IsC r (sbB (mlB x v) (mlB y u)) := by
  obtain ⟨p, n, hp, pq⟩ := mul_any (P := Tryz.prog) w x _ v _ (IsQ.self hx) (IsQ.self hv)
  obtain ⟨q, m, hq, qq⟩ := mul_any (P := Tryz.prog) (w.drewN n) y _ u _ (IsQ.self hy) (IsQ.self hu)
  obtain ⟨r, l, hr, rr⟩ := sub_any (P := Tryz.prog) (w.drewN (n + m)) p _ q _ pq qq
  rw [World.drewN_drewN] at hq hr
  have HQ : Hid (IsC r (sbB (mlB x v) (mlB y u))) := by
    have e1 : mlB x v = mlB (qB x) (qB v) := by unfold mlB; rw [mul_ql, mul_qr]
    have e2 : mlB y u = mlB (qB y) (qB u) := by unfold mlB; rw [mul_ql, mul_qr]
    rw [e1, e2]; exact rr
  clear pq qq rr hx hy hu hv
  go_enter Tryz.func162, Tryz.ntmps162
  go_wp2
  go_ret
  exact ⟨r, _, rfl, rfl, HQ.out⟩
theorem rsqrt_at (x : Nat) (w : World) :
    Calls Tryz.prog 159 #[.float .f64 x] w fun e w' => ∃ r n, e = .returned (.float .f64 r) /\ w' = w.drewN n /\ IsC r (rtB x) := by
  have S := hid (fun w => sqrt_at x w)
  go_enter Tryz.func159, Tryz.ntmps159
  go_wp2_with fail
  refine (S.out _).mono ?_
  rintro e w1 ⟨r, n, rfl, rfl, hq⟩
  have HQ := hid hq
  clear hq
  go_wp2
  go_ret
  exact ⟨r, n, rfl, rfl, HQ.out⟩
theorem rminus_at (x y z u v t : Nat) (w : World) (hx : x < 18446744073709551616) (hy : y < 18446744073709551616) (hz : z < 18446744073709551616) (hu : u < 18446744073709551616) (hv : v < 18446744073709551616) (ht : t < 18446744073709551616) :
    Calls Tryz.prog 139 #[.agg #[.float .f64 x, .float .f64 y, .float .f64 z], .agg #[.float .f64 u, .float .f64 v, .float .f64 t]] w fun e w' => e = .returned (.agg #[.float .f64 (sbB x u), .float .f64 (sbB y v), .float .f64 (sbB z t)]) /\ Below w.heap.size w w' := by
  obtain ⟨r1, n1, k1, q1⟩ := sub_any (P := Tryz.prog) (((w.alloc (.cells #[.float .f64 x, .float .f64 y, .float .f64 z] 157)).alloc (.cells #[.float .f64 u, .float .f64 v, .float .f64 t] 157)).alloc (.cells #[.float .f64 0, .float .f64 0, .float .f64 0] 157)) x _ u _ (IsQ.self hx) (IsQ.self hu)
  obtain ⟨r2, n2, k2, q2⟩ := sub_any (P := Tryz.prog) ((((w.alloc (.cells #[.float .f64 x, .float .f64 y, .float .f64 z] 157)).alloc (.cells #[.float .f64 u, .float .f64 v, .float .f64 t] 157)).alloc (.cells #[.float .f64 0, .float .f64 0, .float .f64 0] 157)).drewN n1) y _ v _ (IsQ.self hy) (IsQ.self hv)
  obtain ⟨r3, n3, k3, q3⟩ := sub_any (P := Tryz.prog) ((((w.alloc (.cells #[.float .f64 x, .float .f64 y, .float .f64 z] 157)).alloc (.cells #[.float .f64 u, .float .f64 v, .float .f64 t] 157)).alloc (.cells #[.float .f64 0, .float .f64 0, .float .f64 0] 157)).drewN (n1 + n2)) z _ t _ (IsQ.self hz) (IsQ.self ht)
  rw [World.drewN_drewN] at k2 k3
  rw [sbB_q hu] at q1
  rw [sbB_q hv] at q2
  rw [sbB_q ht] at q3
  have CN := hid (fun w => made_at r1 r2 r3 _ _ _ w q1 q2 q3)
  have A0 := hid (bl3 w (.cells #[.float .f64 x, .float .f64 y, .float .f64 z] 157) (.cells #[.float .f64 u, .float .f64 v, .float .f64 t] 157) (.cells #[.float .f64 0, .float .f64 0, .float .f64 0] 157))
  have R0 := hid (W3rows w (.cells #[.float .f64 x, .float .f64 y, .float .f64 z] 157) (.cells #[.float .f64 u, .float .f64 v, .float .f64 t] 157) (.cells #[.float .f64 0, .float .f64 0, .float .f64 0] 157))
  clear q1 q2 q3 hx hy hz hu hv ht
  go_enter Tryz.func139, Tryz.ntmps139
  go_wp2_with fail
  refine (CN.out _).mono ?_
  rintro e w4 ⟨rfl, b4⟩
  have A4 : Hid (Ab w w4) := Ab.call (Ab.drewN A0.out _) b4
  have r0 : w4.heap[w.heap.size + 1 + 1]? = some (.cells #[.float .f64 0, .float .f64 0, .float .f64 0] 157) := Ab.heap b4 R0.out.2.2
  obtain ⟨⟨o0, o1, o2⟩, o3, o4, o5⟩ := rowfacts r0
  have R4 := hid r0
  clear r0 b4 A0 R0 k1 k2 k3
  go_wp2
  refine bodyPost_ret ?_ rfl ⟨rfl, ?_⟩
  · exact results_cell_row Tryz.results139 _ _ (w.heap.size + 1 + 1) _ _ (0, 0) _ rfl (row3 R4.out) Tryz.underlying157 rfl (by kernel_rfl)
  · exact ((Ab.setk A4.out (by omega) _).setk (by omega) _).setk (by omega) _
theorem rcross_at (x y z u v t : Nat) (w : World) (hx : x < 18446744073709551616) (hy : y < 18446744073709551616) (hz : z < 18446744073709551616) (hu : u < 18446744073709551616) (hv : v < 18446744073709551616) (ht : t < 18446744073709551616) :
    Calls Tryz.prog 138 #[.agg #[.float .f64 x, .float .f64 y, .float .f64 z], .agg #[.float .f64 u, .float .f64 v, .float .f64 t]] w fun e w' => e = .returned (.agg #[.float .f64 (sbB (mlB y t) (mlB z v)), .float .f64 (sbB (mlB z u) (mlB x t)), .float .f64 (sbB (mlB x v) (mlB y u))]) /\ Below w.heap.size w w' := by
  obtain ⟨c0, hc0⟩ : ∃ c, sbB (mlB y t) (mlB z v) = c := ⟨_, rfl⟩
  obtain ⟨c1, hc1⟩ : ∃ c, sbB (mlB z u) (mlB x t) = c := ⟨_, rfl⟩
  obtain ⟨c2, hc2⟩ : ∃ c, sbB (mlB x v) (mlB y u) = c := ⟨_, rfl⟩
  rw [hc0, hc1, hc2]
  have T0 : Hid (∀ u0, Calls Tryz.prog 162 #[.float .f64 y, .float .f64 t, .float .f64 z, .float .f64 v] u0 fun e w' => ∃ r n, e = .returned (.float .f64 r) /\ w' = u0.drewN n /\ Hid (IsC r c0)) := fun u0 => by rw [<- hc0]; exact less_at y t z v u0 hy ht hz hv
  have T1 : Hid (∀ u0, Calls Tryz.prog 162 #[.float .f64 z, .float .f64 u, .float .f64 x, .float .f64 t] u0 fun e w' => ∃ r n, e = .returned (.float .f64 r) /\ w' = u0.drewN n /\ Hid (IsC r c1)) := fun u0 => by rw [<- hc1]; exact less_at z u x t u0 hz hu hx ht
  have T2 : Hid (∀ u0, Calls Tryz.prog 162 #[.float .f64 x, .float .f64 v, .float .f64 y, .float .f64 u] u0 fun e w' => ∃ r n, e = .returned (.float .f64 r) /\ w' = u0.drewN n /\ Hid (IsC r c2)) := fun u0 => by rw [<- hc2]; exact less_at x v y u u0 hx hv hy hu
  have CN := hid (fun r1 r2 r3 w (q1 : IsC r1 c0) (q2 : IsC r2 c1) (q3 : IsC r3 c2) => made_at r1 r2 r3 _ _ _ w q1 q2 q3)
  have A0 := hid (bl3 w (.cells #[.float .f64 x, .float .f64 y, .float .f64 z] 157) (.cells #[.float .f64 u, .float .f64 v, .float .f64 t] 157) (.cells #[.float .f64 0, .float .f64 0, .float .f64 0] 157))
  have R0 := hid (W3rows w (.cells #[.float .f64 x, .float .f64 y, .float .f64 z] 157) (.cells #[.float .f64 u, .float .f64 v, .float .f64 t] 157) (.cells #[.float .f64 0, .float .f64 0, .float .f64 0] 157))
  clear hx hy hz hu hv ht hc0 hc1 hc2
  go_enter Tryz.func138, Tryz.ntmps138
  go_upto_region 1 with fail
  generalize hW : World.alloc _ _ = W
  have AW : Hid (Ab w W) := by rw [<- hW]; exact A0.out
  have ra : W.heap[w.heap.size]? = some (.cells #[.float .f64 x, .float .f64 y, .float .f64 z] 157) := by rw [<- hW]; exact R0.out.1
  have rb : W.heap[w.heap.size + 1]? = some (.cells #[.float .f64 u, .float .f64 v, .float .f64 t] 157) := by rw [<- hW]; exact R0.out.2.1
  have rc : W.heap[w.heap.size + 1 + 1]? = some (.cells #[.float .f64 0, .float .f64 0, .float .f64 0] 157) := by rw [<- hW]; exact R0.out.2.2
  have KS : Hid (∀ w', Abx W (w.heap.size + 1 + 1) 3 157 w' -> Abx W (w.heap.size + 1 + 1) 3 157 w' /\ w'.cell? ⟨w.heap.size, 0, none⟩ = some (.float .f64 x) /\ w'.cell? ⟨w.heap.size, 1, none⟩ = some (.float .f64 y) /\ w'.cell? ⟨w.heap.size, 2, none⟩ = some (.float .f64 z) /\ w'.cell? ⟨w.heap.size + 1, 0, none⟩ = some (.float .f64 u) /\ w'.cell? ⟨w.heap.size + 1, 1, none⟩ = some (.float .f64 v) /\ w'.cell? ⟨w.heap.size + 1, 2, none⟩ = some (.float .f64 t) /\ w'.frozen? ⟨w.heap.size + 1 + 1, 0, none⟩ = false /\ w'.frozen? ⟨w.heap.size + 1 + 1, 1, none⟩ = false /\ w'.frozen? ⟨w.heap.size + 1 + 1, 2, none⟩ = false /\ w'.cell? ⟨w.heap.size + 1 + 1, 0, none⟩ = some (rv w' (w.heap.size + 1 + 1) 0) /\ w'.cell? ⟨w.heap.size + 1 + 1, 1, none⟩ = some (rv w' (w.heap.size + 1 + 1) 1) /\ w'.cell? ⟨w.heap.size + 1 + 1, 2, none⟩ = some (rv w' (w.heap.size + 1 + 1) 2)) := by
    intro w' hw
    obtain ⟨-, p3, p4, p5⟩ := rowfacts (hw.heap (by omega) ra)
    obtain ⟨-, p6, p7, p8⟩ := rowfacts (hw.heap (by omega) rb)
    exact ⟨hw, p3, p4, p5, p6, p7, p8, hw.free 0, hw.free 1, hw.free 2, hw.some (by omega), hw.some (by omega), hw.some (by omega)⟩
  have A1 : Abx W (w.heap.size + 1 + 1) 3 157 W := (Ab.refl W).x rfl rc
  clear ra rb rc hW A0 R0
  go_region_held3 (fun w' => Abx W (w.heap.size + 1 + 1) 3 157 w' /\ w'.cell? ⟨w.heap.size, 0, none⟩ = some (.float .f64 x) /\ w'.cell? ⟨w.heap.size, 1, none⟩ = some (.float .f64 y) /\ w'.cell? ⟨w.heap.size, 2, none⟩ = some (.float .f64 z) /\ w'.cell? ⟨w.heap.size + 1, 0, none⟩ = some (.float .f64 u) /\ w'.cell? ⟨w.heap.size + 1, 1, none⟩ = some (.float .f64 v) /\ w'.cell? ⟨w.heap.size + 1, 2, none⟩ = some (.float .f64 t) /\ w'.frozen? ⟨w.heap.size + 1 + 1, 0, none⟩ = false /\ w'.frozen? ⟨w.heap.size + 1 + 1, 1, none⟩ = false /\ w'.frozen? ⟨w.heap.size + 1 + 1, 2, none⟩ = false /\ w'.cell? ⟨w.heap.size + 1 + 1, 0, none⟩ = some (rv w' (w.heap.size + 1 + 1) 0) /\ w'.cell? ⟨w.heap.size + 1 + 1, 1, none⟩ = some (rv w' (w.heap.size + 1 + 1) 1) /\ w'.cell? ⟨w.heap.size + 1 + 1, 2, none⟩ = some (rv w' (w.heap.size + 1 + 1) 2)) ((refine KS.out _ ?_; (with_reducible (repeat (first | assumption | apply Abx.drew | apply Abx.drewN | apply Abx.set | (refine Abx.call ?_ (by assumption))))); done)) (first
    | (go_at_call 162; have hh := q2.out; refine (T2.out _).mono ?_; rintro e w3 ⟨r3, n3, rfl, rfl, q3⟩)
    | (go_at_call 162; have hh := q1.out; refine (T1.out _).mono ?_; rintro e w2 ⟨r2, n2, rfl, rfl, q2⟩)
    | (go_at_call 162; refine (T0.out _).mono ?_; rintro e w1 ⟨r1, n1, rfl, rfl, q1⟩)
    | (go_at_call 161; refine (CN.out _ _ _ _ q1.out q2.out q3.out).mono ?_; rintro e w4 ⟨rfl, b4⟩))
  have A2 : Abx W (w.heap.size + 1 + 1) 3 157 w4 := Abx.call (A1.drewN _) b4
  clear KS A1 b4
  go_wp2
  refine bodyPost_ret ?_ rfl ⟨rfl, ?_⟩
  · exact results_cell_row Tryz.results138 _ _ (w.heap.size + 1 + 1) _ _ (0, 0) _ rfl (set3 A2) Tryz.underlying157 rfl (by kernel_rfl)
  · exact (((A2.set 0 _).set 1 _).set 2 _).ab AW.out (by omega)
theorem rlength_at (x y z : Nat) (w : World) (hx : x < 18446744073709551616) (hy : y < 18446744073709551616) (hz : z < 18446744073709551616) :
    Calls Tryz.prog 137 #[.agg #[.float .f64 x, .float .f64 y, .float .f64 z]] w fun e w' => e = .returned (.float .f64 (lnB x y z)) /\ Below w.heap.size w w' := by
  obtain ⟨T, hT⟩ : ∃ T, thB (sqB x) (sqB y) (sqB z) = T := ⟨_, rfl⟩
  obtain ⟨l, hl⟩ : ∃ l, lnB x y z = l := ⟨_, rfl⟩
  have hlT : rtB T = l := by rw [<- hT, <- hl]; rfl
  rw [hl]
  obtain ⟨r1, n1, k1, q1⟩ := mul_any (P := Tryz.prog) (w.alloc (.cells #[.float .f64 x, .float .f64 y, .float .f64 z] 157)) x _ x _ (IsQ.self hx) (IsQ.self hx)
  obtain ⟨r2, n2, k2, q2⟩ := mul_any (P := Tryz.prog) ((w.alloc (.cells #[.float .f64 x, .float .f64 y, .float .f64 z] 157)).drewN n1) y _ y _ (IsQ.self hy) (IsQ.self hy)
  obtain ⟨r3, n3, k3, q3⟩ := mul_any (P := Tryz.prog) ((w.alloc (.cells #[.float .f64 x, .float .f64 y, .float .f64 z] 157)).drewN (n1 + n2)) z _ z _ (IsQ.self hz) (IsQ.self hz)
  rw [World.drewN_drewN] at k2 k3
  have e1 : IsQ r1 (sqB x) := by unfold sqB mlB; rw [<- mul_ql, <- mul_qr]; exact q1
  have e2 : IsQ r2 (sqB y) := by unfold sqB mlB; rw [<- mul_ql, <- mul_qr]; exact q2
  have e3 : IsQ r3 (sqB z) := by unfold sqB mlB; rw [<- mul_ql, <- mul_qr]; exact q3
  have TH : Hid (∀ u0, Calls Tryz.prog 160 #[.float .f64 r1, .float .f64 r2, .float .f64 r3] u0 fun e w' => e = .returned (.float .f64 T) /\ ∃ k, w' = u0.drewN k) := fun u0 => by
    rw [<- hT, <- e1.2, <- e2.2, <- e3.2, <- thB_q]
    exact rthree_at r1 r2 r3 u0 e1.1 e2.1 e3.1
  have SQ : Hid (∀ u0, Calls Tryz.prog 159 #[.float .f64 T] u0 fun e w' => ∃ r n, e = .returned (.float .f64 r) /\ w' = u0.drewN n /\ Hid (IsC r l)) := fun u0 => by rw [<- hlT]; exact rsqrt_at T u0
  have CN : Hid (∀ r u0, IsC r l -> Calls Tryz.prog 57 #[.float .f64 r] u0 fun e w' => e = .returned (.float .f64 l) /\ w' = u0) := fun r u0 q => by rw [<- q.2]; exact rcanon_any r u0
  have A0 := hid (bl1 w (.cells #[.float .f64 x, .float .f64 y, .float .f64 z] 157))
  clear hx hy hz hT hl hlT q1 q2 q3 e1 e2 e3
  go_enter Tryz.func137, Tryz.ntmps137
  go_wp2_with fail
  refine (TH.out _).mono ?_
  rintro e w1 ⟨rfl, n4, rfl⟩
  go_wp2_with fail
  refine (SQ.out _).mono ?_
  rintro e w1 ⟨r5, n5, rfl, rfl, q5⟩
  go_wp2_with fail
  refine (CN.out _ _ q5.out).mono ?_
  rintro e w1 ⟨rfl, rfl⟩
  go_wp2
  go_ret
  exact ⟨rfl, Ab.drewN A0.out _⟩
end Go.Proofs.YtdigecacmibkpaaGreatDoor

namespace Go.Proofs.YtdigecacmibkpaaGreatDoor
open Go.RowKit Tf
attribute [local go_sem] run_bits run_from raw_feq raw_fne raw_flt raw_fgt run_neg run_store_float
theorem refClass_at (x m : Nat) (c : Int) (w : World) (hm : Hid (mg x = m)) (hc : Hid ((if m = 0 then 0 else if m < 4503599627370496 then 1 else if m < 9218868437227405312 then 2 else if m = 9218868437227405312 then 3 else 4) = c)) :
    Calls Tryz.prog 182 #[.float .f64 x] w fun e w' => e = .returned (.int .i64 c) /\ w' = w := by
  by_cases c0 : m = 0
  · subst c0
    go_enter Tryz.func182, Tryz.ntmps182
    go_wp2_with fail
    refine (refMag_at x _ _ hm).mono ?_
    rintro e w' ⟨rfl, rfl⟩
    go_wp2
    go_ret
    exact ⟨ret_int hc.out, rfl⟩
  · have e0 : ((m : Int) == 0) = false := by simp; omega
    by_cases c1 : m < 4503599627370496
    · have h := hc.out
      rw [if_neg c0, if_pos c1] at h
      subst h
      have e1 : decide ((m : Int) < 4503599627370496) = true := by simp; omega
      clear hc c0 c1
      go_enter Tryz.func182, Tryz.ntmps182
      go_wp2_with fail
      refine (refMag_at x _ _ hm).mono ?_
      rintro e w' ⟨rfl, rfl⟩
      go_wp2
      go_ret
      exact ⟨rfl, rfl⟩
    · by_cases c2 : m < 9218868437227405312
      · have h := hc.out
        rw [if_neg c0, if_neg c1, if_pos c2] at h
        subst h
        have e1 : decide ((m : Int) < 4503599627370496) = false := by simp; omega
        have e2 : decide ((m : Int) < 9218868437227405312) = true := by simp; omega
        clear hc c0 c1 c2
        go_enter Tryz.func182, Tryz.ntmps182
        go_wp2_with fail
        refine (refMag_at x _ _ hm).mono ?_
        rintro e w' ⟨rfl, rfl⟩
        go_wp2
        go_ret
        exact ⟨rfl, rfl⟩
      · by_cases c3 : m = 9218868437227405312
        · have h := hc.out
          rw [if_neg c0, if_neg c1, if_neg c2, if_pos c3] at h
          subst h
          clear hc
          subst c3
          go_enter Tryz.func182, Tryz.ntmps182
          go_wp2_with fail
          refine (refMag_at x _ _ hm).mono ?_
          rintro e w' ⟨rfl, rfl⟩
          go_wp2
          go_ret
          exact ⟨rfl, rfl⟩
        · have e3 : ((m : Int) == 9218868437227405312) = false := by simp; omega
          have h := hc.out
          rw [if_neg c0, if_neg c1, if_neg c2, if_neg c3] at h
          subst h
          have e1 : decide ((m : Int) < 4503599627370496) = false := by simp; omega
          have e2 : decide ((m : Int) < 9218868437227405312) = false := by simp; omega
          clear hc c0 c1 c2 c3
          go_enter Tryz.func182, Tryz.ntmps182
          go_wp2_with fail
          refine (refMag_at x _ _ hm).mono ?_
          rintro e w' ⟨rfl, rfl⟩
          go_wp2
          go_ret
          exact ⟨rfl, rfl⟩
theorem refClass_any (x : Nat) (w : World) :
    Calls Tryz.prog 182 #[.float .f64 x] w fun e w' => e = .returned (.int .i64 (classB x)) /\ w' = w :=
  refClass_at x (mg x) (classB x) w rfl rfl
open Ieee in
theorem rtB_ng (x : Nat) : ng (rtB x) = false := by
  have key : ∀ r, double.sqrt x = some r -> ng (canonB r) = false := by
    intro r h
    unfold Format.sqrt at h
    cases e : double.read x with
    | nan s f => rw [e] at h; simp [Datum.root] at h
    | infinity s =>
      rw [e] at h
      cases s
      · simp [Datum.root, Format.write] at h; subst h; decide
      · simp [Datum.root] at h
    | number s m i =>
      rw [e] at h
      unfold Datum.root at h
      dsimp only at h
      by_cases hm : m = 0
      · rw [if_pos hm] at h
        simp only [Option.map_some, Option.some.injEq, Format.write, Format.nearest, hm, if_true] at h
        subst h
        cases s <;> decide
      · rw [if_neg hm] at h
        cases s
        · simp only [Bool.false_eq_true, if_false, Option.map_some, Option.some.injEq, Format.write] at h
          subst h
          have hw : ∀ a b, double.nearest false a b <= 9218868437227405312 := by
            intro a b
            unfold Format.nearest
            split
            · rw [d_word]; simp
            · rw [d_word, d_inf]; simp only [Bool.false_eq_true, if_false]; exact Nat.min_le_right _ _
          generalize hq : double.nearest false _ _ = q
          have hle : q <= 9218868437227405312 := by rw [<- hq]; exact hw _ _
          unfold canonB
          split
          · decide
          · split
            · decide
            · exact ng_of_lt (by omega)
        · simp at h
  cases h : double.sqrt x with
  | none => rw [rtB_none h]; decide
  | some r => rw [rtB_some h]; exact key r h
theorem rtB_lt (x : Nat) : rtB x < 18446744073709551616 := by
  cases h : Ieee.double.sqrt x with
  | none => rw [rtB_none h]; decide
  | some r => rw [rtB_some h]; exact canon_lt (sqrt_lt h)
theorem lv_class {l : Nat} (hl : l < 18446744073709551616) (hn : ng l = false) : lvB l = (classB l == 1 || classB l == 2) := by
  unfold lvB
  rw [fgt_rk l 0 hl (by decide), fgt_rk l _ hl (by decide)]
  have e1 : rk 0 = 0 := by decide
  have e2 : rk 9218868437227405311 = 9218868437227405311 := by decide
  have e3 : isN 0 = false := by decide
  have e4 : isN 9218868437227405311 = false := by decide
  have e5 : rk l = (mg l : Int) := by unfold rk; rw [hn]; rfl
  rw [e1, e2, e3, e4, e5]
  unfold classB isN
  by_cases a : mg l = 0
  · simp [a]
  · rw [if_neg a]
    by_cases b : mg l < 4503599627370496
    · rw [if_pos b]
      have : ¬ 9218868437227405312 < mg l := by omega
      simp [this]; omega
    · rw [if_neg b]
      by_cases c : mg l < 9218868437227405312
      · rw [if_pos c]
        have : ¬ 9218868437227405312 < mg l := by omega
        simp [this]; omega
      · rw [if_neg c]
        by_cases d : mg l = 9218868437227405312
        · rw [if_pos d]; simp [d]
        · rw [if_neg d]
          have : 9218868437227405312 < mg l := by omega
          simp [this]
theorem runit_at (x y z : Nat) (w : World) (hx : x < 18446744073709551616) (hy : y < 18446744073709551616) (hz : z < 18446744073709551616) :
    Calls Tryz.prog 172 #[.agg #[.float .f64 x, .float .f64 y, .float .f64 z]] w fun e w' => e = .returned (.agg #[.float .f64 (unB (lnB x y z) x), .float .f64 (unB (lnB x y z) y), .float .f64 (unB (lnB x y z) z)]) /\ Below w.heap.size w w' := by
  have LN := hid (fun w => rlength_at x y z w hx hy hz)
  obtain ⟨l, hl⟩ : ∃ l, lnB x y z = l := ⟨_, rfl⟩
  have hlt : l < 18446744073709551616 := by rw [<- hl]; exact rtB_lt _
  have hng : ng l = false := by rw [<- hl]; exact rtB_ng _
  rw [hl]
  rw [hl] at LN
  have lc := lv_class hlt hng
  obtain ⟨c, hc⟩ : ∃ c, classB l = c := ⟨_, rfl⟩
  rw [hc] at lc
  have IF : Hid (∀ w, Calls Tryz.prog 182 #[.float .f64 l] w fun e w' => e = .returned (.int .i64 c) /\ w' = w) := fun w => by rw [<- hc]; exact refClass_any l w
  have hcr : c = 0 \/ c = 1 \/ c = 2 \/ c = 3 \/ c = 4 := by
    rw [<- hc]; unfold classB; repeat' split
    all_goals simp
  have A0 := hid (bl2 w (.cells #[.float .f64 x, .float .f64 y, .float .f64 z] 157) (.cells #[.float .f64 0, .float .f64 0, .float .f64 0] 157))
  have R0 := hid (And.intro (heap_alloc2_old w (.cells #[.float .f64 x, .float .f64 y, .float .f64 z] 157) (.cells #[.float .f64 0, .float .f64 0, .float .f64 0] 157)) (heap_alloc2_new w (.cells #[.float .f64 x, .float .f64 y, .float .f64 z] 157) (.cells #[.float .f64 0, .float .f64 0, .float .f64 0] 157)))
  have MZ := hid (fun w => made_at 0 0 0 0 0 0 w ⟨by decide, by decide⟩ ⟨by decide, by decide⟩ ⟨by decide, by decide⟩)
  clear hx hy hz hl hlt hng hc
  by_cases hv : lvB l = true
  · have hu : ∀ k, unB l k = dvB k l := fun k => by simp [unB, hv]
    rw [hu, hu, hu]
    have hc2 : c = 1 \/ c = 2 := by rw [hv] at lc; simpa using lc.symm
    clear hu hv lc hcr
    rcases hc2 with rfl | rfl
    all_goals
      go_enter Tryz.func172, Tryz.ntmps172
      go_wp2_with fail
      refine (LN.out _).mono ?_
      rintro e w1 ⟨rfl, b1⟩
      have r0 : w1.heap[w.heap.size + 1]? = some (.cells #[.float .f64 0, .float .f64 0, .float .f64 0] 157) := Ab.heap b1 R0.out.2
      have ra : w1.heap[w.heap.size]? = some (.cells #[.float .f64 x, .float .f64 y, .float .f64 z] 157) := Ab.heap b1 R0.out.1
      have A1 : Hid (Ab w w1) := Ab.call A0.out b1
      obtain ⟨-, a0, a1, a2⟩ := rowfacts ra
      have R1 := hid r0
      obtain ⟨r1, n1, k1, q1⟩ := div_any (P := Tryz.prog) w1 x l
      obtain ⟨r2, n2, k2, q2⟩ := div_any (P := Tryz.prog) (w1.drewN n1) y l
      obtain ⟨r3, n3, k3, q3⟩ := div_any (P := Tryz.prog) (w1.drewN (n1 + n2)) z l
      rw [World.drewN_drewN] at k2 k3
      have CN := hid (fun w => made_at r1 r2 r3 _ _ _ w q1 q2 q3)
      clear r0 ra b1 A0 R0 q1 q2 q3
      go_wp2_with fail
      refine (IF.out _).mono ?_
      rintro e w1 ⟨rfl, rfl⟩
      go_wp2_with fail
      refine (CN.out _).mono ?_
      rintro e w4 ⟨rfl, b4⟩
      have A4 : Hid (Ab w w4) := Ab.call (Ab.drewN A1.out _) b4
      have r4 : w4.heap[w.heap.size + 1]? = some (.cells #[.float .f64 0, .float .f64 0, .float .f64 0] 157) := Ab.heap b4 R1.out
      obtain ⟨⟨o0, o1, o2⟩, o3, o4, o5⟩ := rowfacts r4
      have R4 := hid r4
      clear r4 b4 A1 R1 k1 k2 k3 a0 a1 a2
      go_wp2
      refine bodyPost_ret ?_ rfl ⟨rfl, ?_⟩
      · exact results_cell_row Tryz.results172 _ _ (w.heap.size + 1) _ _ (0, 0) _ rfl (row3 R4.out) Tryz.underlying157 rfl (by kernel_rfl)
      · exact ((Ab.setk A4.out (by omega) _).setk (by omega) _).setk (by omega) _
  · have hu : ∀ k, unB l k = 0 := fun k => by simp [unB, hv]
    rw [hu, hu, hu]
    have hc2 : c = 0 \/ c = 3 \/ c = 4 := by
      have h0 : lvB l = false := by simpa using hv
      rw [h0] at lc
      rcases hcr with rfl | rfl | rfl | rfl | rfl
      · exact .inl rfl
      · simp at lc
      · simp at lc
      · exact .inr (.inl rfl)
      · exact .inr (.inr rfl)
    clear hu hv lc hcr
    rcases hc2 with rfl | rfl | rfl
    all_goals
      go_enter Tryz.func172, Tryz.ntmps172
      go_wp2_with fail
      refine (LN.out _).mono ?_
      rintro e w1 ⟨rfl, b1⟩
      have r0 : w1.heap[w.heap.size + 1]? = some (.cells #[.float .f64 0, .float .f64 0, .float .f64 0] 157) := Ab.heap b1 R0.out.2
      have A1 : Hid (Ab w w1) := Ab.call A0.out b1
      have R1 := hid r0
      clear r0 b1 A0 R0
      go_wp2_with fail
      refine (IF.out _).mono ?_
      rintro e w1 ⟨rfl, rfl⟩
      go_wp2_with fail
      refine (MZ.out _).mono ?_
      rintro e w4 ⟨rfl, b4⟩
      have A4 : Hid (Ab w w4) := Ab.call A1.out b4
      have r4 : w4.heap[w.heap.size + 1]? = some (.cells #[.float .f64 0, .float .f64 0, .float .f64 0] 157) := Ab.heap b4 R1.out
      obtain ⟨⟨o0, o1, o2⟩, o3, o4, o5⟩ := rowfacts r4
      have R4 := hid r4
      clear r4 b4 A1 R1
      go_wp2
      refine bodyPost_ret ?_ rfl ⟨rfl, ?_⟩
      · exact results_cell_row Tryz.results172 _ _ (w.heap.size + 1) _ _ (0, 0) _ rfl (row3 R4.out) Tryz.underlying157 rfl (by kernel_rfl)
      · exact ((Ab.setk A4.out (by omega) _).setk (by omega) _).setk (by omega) _
end Go.Proofs.YtdigecacmibkpaaGreatDoor

namespace Go.Proofs.YtdigecacmibkpaaGreatDoor
open Tf Ieee
def Gn (x : Nat) : Prop := 4503599627370496 <= mg (sqB x) /\ mg (sqB x) < 9218868437227405312
theorem sq_inf {x : Nat} (hx : x < 18446744073709551616) (h : mg x = 9218868437227405312) : sqB x = 9218868437227405312 := by
  unfold sqB
  rw [mlB_some (mul_ii x x hx hx h h), Bool.xor_self]
  rfl
theorem Gn.fin {x : Nat} (hx : x < 18446744073709551616) (h : Gn x) : mg x < 9218868437227405312 := by
  rcases three x with k | k | k
  · exact k
  · exfalso
    have := h.2
    rw [sq_inf hx k] at this
    exact absurd this (by decide)
  · exfalso
    have := h.2
    unfold sqB at this
    rw [mlB_none (mul_nan _ _ (.inl k))] at this
    exact absurd this (by decide)
end Go.Proofs.YtdigecacmibkpaaGreatDoor

namespace Go.Proofs.YtdigecacmibkpaaGreatDoor
open Tf Ieee Cu
def cn (x : Nat) : Nat := canonB (negB x)
theorem canon_cases {x : Nat} (_ : x < 18446744073709551616) : (isN x = true /\ canonB x = quiet) \/ (mg x = 0 /\ canonB x = 0) \/ (isN x = false /\ mg x ≠ 0 /\ canonB x = x) := by
  unfold canonB
  cases h : isN x
  · by_cases c : mg x = 0
    · exact .inr (.inl ⟨c, by simp [c]⟩)
    · exact .inr (.inr ⟨rfl, c, by simp [c]⟩)
  · exact .inl ⟨rfl, by simp⟩
theorem cn_canon {x : Nat} (hx : x < 18446744073709551616) : cn (canonB x) = cn x := by
  have h1 := negB_isN hx
  have h2 := negB_mg hx
  rcases canon_cases hx with ⟨h, e⟩ | ⟨h, e⟩ | ⟨h, k, e⟩
  · rw [e]; unfold cn canonB; rw [h1, h, if_pos rfl]; decide
  · rw [e]; unfold cn
    have : canonB (negB x) = 0 := by
      rcases canon_cases (negB_lt' hx) with ⟨a, b⟩ | ⟨a, b⟩ | ⟨a, a', b⟩
      · rw [h1] at a; unfold isN at a; rw [h] at a; simp at a
      · exact b
      · rw [h2] at a'; exact absurd h a'
    rw [this]; decide
  · rw [e]
theorem nearest_not (s : Bool) (m : Nat) (p : Int) : double.nearest (!s) m p = negB (double.nearest s m p) := by
  have hw : ∀ (s : Bool) r, r < 9223372036854775808 -> double.word (!s) r = negB (double.word s r) := by
    intro s r hr
    rw [d_word, d_word]
    cases s
    · simp only [Bool.not_false, if_true, Bool.false_eq_true, if_false]
      unfold negB; rw [ng_of_lt hr]; simp; omega
    · simp only [Bool.not_true, if_true, Bool.false_eq_true, if_false]
      unfold negB; rw [ng_of_ge (by omega)]; simp
  unfold Format.nearest
  by_cases c : m = 0
  · rw [if_pos c, if_pos c]; exact hw s 0 (by omega)
  · rw [if_neg c, if_neg c]
    have hm : ∀ x, min x double.infRung < 9223372036854775808 := fun x => by
      have := Nat.min_le_right x double.infRung
      rw [d_inf] at this ⊢; omega
    exact hw s _ (hm _)
theorem write_opp (d : Datum) (h : ∀ s t, d ≠ .nan s t) : double.write d.opposite = negB (double.write d) := by
  cases d with
  | number s m i => exact nearest_not s m i
  | infinity s => cases s <;> decide +kernel
  | nan s t => exact absurd rfl (h s t)
theorem div_opp (p : Nat) (d e : Datum) : d.opposite.quotient p e = (d.quotient p e).map Datum.opposite /\ (∀ s t, d.quotient p e ≠ some (.nan s t)) := by
  cases d <;> cases e <;> simp [Datum.opposite, Datum.quotient] <;> (try split) <;> (try split) <;> simp [Datum.opposite]
theorem map_opp {o : Option Datum} (h : ∀ s t, o ≠ some (.nan s t)) : (o.map Datum.opposite).map double.write = (o.map double.write).map negB := by
  cases o with
  | none => rfl
  | some d => simp only [Option.map_some]; rw [write_opp d (fun s t e => h s t (by rw [e]))]
theorem div_lt64 {a b r : Nat} (h : double.div a b = some r) : r < 18446744073709551616 := by
  have hr : ∃ d, double.write d = r := by
    have h' : ((double.read a).quotient 54 (double.read b)).map double.write = some r := h
    rw [Option.map_eq_some_iff] at h'
    obtain ⟨d, _, e⟩ := h'
    exact ⟨d, e⟩
  obtain ⟨d, e⟩ := hr
  have hw : ∀ (s : Bool) q, q < 9223372036854775808 -> double.word s q < 18446744073709551616 := by
    intro s q hq; rw [d_word]; split <;> omega
  have hb : double.binade = 4503599627370496 := d_bin
  have hi : double.infRung = 9218868437227405312 := d_inf
  rw [<- e]
  cases d with
  | number s m i =>
    unfold Format.write Format.nearest
    dsimp only
    split
    · exact hw _ _ (by omega)
    · exact hw _ _ (Nat.lt_of_le_of_lt (Nat.min_le_right _ _) (by rw [hi]; omega))
  | infinity s => exact hw _ _ (by rw [hi]; omega)
  | nan s t =>
    refine hw _ _ ?_
    have := Nat.mod_lt t (show 0 < double.binade by rw [hb]; omega)
    rw [hi]; rw [hb] at this ⊢; omega
theorem dvB_cn {a b : Nat} (ha : a < 18446744073709551616) : dvB (negB a) b = cn (dvB a b) := by
  have key : double.div (negB a) b = (double.div a b).map negB := by
    show ((double.read (negB a)).quotient 54 (double.read b)).map double.write = (((double.read a).quotient 54 (double.read b)).map double.write).map negB
    rw [read_neg a ha, (div_opp 54 _ _).1]
    exact map_opp (div_opp 54 _ _).2
  cases h : double.div a b with
  | none => rw [h] at key; rw [dvB_none h, dvB_none key]; decide
  | some r => rw [h] at key; rw [dvB_some h, dvB_some key, cn_canon (div_lt64 h)]; rfl
theorem dvB_z (b : Nat) (h1 : mg b ≠ 0) (h2 : mg b < 9218868437227405312) (z : Nat) (hz : mg z = 0) : dvB z b = 0 := by
  obtain ⟨m, a, e, k⟩ := read_fin double b (by rw [rg_d, d_inf]; exact h2)
  have hm : m ≠ 0 := by
    intro h0
    rw [h0, Nat.zero_mul, rg_d] at k
    have k2 : mv (mg b) = 0 := k.symm
    refine h1 ?_
    unfold mv mag at k2
    split at k2
    · exact k2
    · exact absurd k2 (Nat.mul_ne_zero (by have := Nat.two_pow_pos 52; omega) (by have := Nat.two_pow_pos (mg b / 2 ^ 52 - 1); omega))
  have hd : ∃ s p, double.div z b = some (double.nearest s 0 p) := by
    have hq : ∃ s p, (double.read z).quotient 54 (double.read b) = some (.number s 0 p) := by
      rw [e, read_zero hz]
      unfold Datum.quotient
      dsimp only
      rw [if_neg hm]
      simp
    obtain ⟨s, p, hq⟩ := hq
    refine ⟨s, p, ?_⟩
    show ((double.read z).quotient 54 (double.read b)).map double.write = _
    rw [hq]; rfl
  obtain ⟨s, p, e⟩ := hd
  rw [dvB_some e]
  unfold Format.nearest
  rw [if_pos rfl]
  cases s <;> decide +kernel
def fB (k : Int) : Nat := rn false (k * one)
def qo (n : Nat) (k : Int) : Nat := dvB (fB k) (fB n)
theorem fB_lt (k : Int) : fB k < 18446744073709551616 := rn_lt _ _
theorem dvB_lt (a b : Nat) : dvB a b < 18446744073709551616 := by
  unfold dvB
  cases h : double.div a b with
  | none => decide
  | some r => exact canon_lt (div_lt64 h)
theorem qo_lt (n : Nat) (k : Int) : qo n k < 18446744073709551616 := dvB_lt _ _
theorem fB_neg (k : Int) : fB (-k) = cn (fB k) := by unfold fB cn; rw [rn_negv, Int.neg_mul]
theorem fB_norm : ∀ n : Nat, n < 33 -> 1 <= n -> mg (fB n) ≠ 0 /\ mg (fB n) < 9218868437227405312 := by decide +kernel
theorem qo_neg {n : Nat} (h1 : 1 <= n) (h2 : n <= 32) (k : Int) : qo n (-k) = cn (qo n k) := by
  obtain ⟨b1, b2⟩ := fB_norm n (by omega) h1
  unfold qo
  rw [fB_neg]
  have hx := fB_lt k
  unfold cn
  rcases canon_cases (negB_lt' hx) with ⟨h, e⟩ | ⟨h, e⟩ | ⟨h, k', e⟩
  · rw [negB_isN hx] at h
    have : isN (fB k) = false := isN_rn _ _
    rw [this] at h; cases h
  · rw [e, dvB_z _ b1 b2 0 (by decide), dvB_z _ b1 b2 (fB k) (by rw [<- negB_mg hx]; exact h)]; decide
  · rw [e, dvB_cn hx]; rfl
theorem qo_one : ∀ n : Nat, n < 33 -> 1 <= n -> qo n n = 4607182418800017408 := by decide +kernel
def pL (n : Nat) (v : P3) : Nat := lnB (qo n v.1) (qo n v.2.1) (qo n v.2.2)
def px (n : Nat) (v : P3) : Nat := unB (pL n v) (qo n v.1)
def py (n : Nat) (v : P3) : Nat := unB (pL n v) (qo n v.2.1)
def pz (n : Nat) (v : P3) : Nat := unB (pL n v) (qo n v.2.2)
theorem px_lt (n : Nat) (v : P3) : px n v < 18446744073709551616 := unB_lt _ _
theorem py_lt (n : Nat) (v : P3) : py n v < 18446744073709551616 := unB_lt _ _
theorem pz_lt (n : Nat) (v : P3) : pz n v < 18446744073709551616 := unB_lt _ _
def gp (n : Nat) (u v : P3) : Nat := lnB (sbB (px n u) (px n v)) (sbB (py n u) (py n v)) (sbB (pz n u) (pz n v))
def cl (x y z u v t : Nat) : Nat := lnB (sbB (mlB y t) (mlB z v)) (sbB (mlB z u) (mlB x t)) (sbB (mlB x v) (mlB y u))
def ar (n : Nat) (p q r s : P3) : Nat := cl (sbB (px n r) (px n p)) (sbB (py n r) (py n p)) (sbB (pz n r) (pz n p)) (sbB (px n s) (px n q)) (sbB (py n s) (py n q)) (sbB (pz n s) (pz n q))
end Go.Proofs.YtdigecacmibkpaaGreatDoor

namespace Go.Proofs.YtdigecacmibkpaaGreatDoor
open Tf Ieee Cu
theorem turned_geo {n M c s t k : Nat} (hn : 1 <= n) (hM : 6 * n * n = M) (hc : c < M) (hs : s < 4) (ht : t < 24) (hk : k < M) :
    (tnC n t c < M /\ tnS n t c < 4 /\ bsC n c s < M /\ bsS n c s < 4 /\ tnS n t (bsC n c s) < 4) /\ bsC n (tnC n t c) ((s + tnS n t c) % 4) = tnC n t (bsC n c s) /\ bsS n (tnC n t c) ((s + tnS n t c) % 4) = (bsS n c s + tnS n t (bsC n c s)) % 4 /\ (tnC n t k = tnC n t c ↔ k = c) /\ tnC n 0 c = c /\ tnS n 0 c = 0 := by
  subst hM
  obtain ⟨f, a, b, hf, ha, hb, rfl⟩ := Pn_ex hn hc hs
  obtain ⟨t1, t2⟩ := tf_lt t ht f hf
  obtain ⟨f1, f2⟩ := nf_lt f hf s hs
  obtain ⟨u1, u2⟩ := tf_lt t ht _ f1
  obtain ⟨b1, b2⟩ := bs_Pn (f := f) hs ha hb
  obtain ⟨c1, c2⟩ := tn_Pn ht hf hs ha hb
  obtain ⟨z1, z2⟩ := tf_zero f hf
  obtain ⟨d1, d2⟩ := tn_Pn (t := 0) (by omega) hf hs ha hb
  have hq : (s + tq t f) % 4 < 4 := by omega
  have hzero : tnC n 0 (Pn n f s a b) = Pn n f s a b /\ tnS n 0 (Pn n f s a b) = 0 := by
    rw [d1, d2, z1, z2, Nat.add_zero, Nat.mod_eq_of_lt hs]; exact ⟨rfl, rfl⟩
  have hinj : tnC n t k = tnC n t (Pn n f s a b) ↔ k = Pn n f s a b := by
    obtain ⟨f', a', b', hf', ha', hb', rfl⟩ := Pn_ex hn hk hs
    obtain ⟨g1, g2⟩ := tn_Pn ht hf' hs ha' hb'
    refine ⟨fun e => ?_, fun e => by rw [e]⟩
    rw [g1, c1] at e
    have e1 := (Pn_dec (f := tf t f') (show (s + tq t f') % 4 < 4 by omega) ha' hb').1
    have e2 := (Pn_dec (f := tf t f) hq ha hb).1
    rw [e, e2] at e1
    have ef := tf_inj t ht f hf f' hf' e1
    subst ef
    obtain ⟨_, h1, h2⟩ := Pn_inj hq ha' hb' ha hb e
    rw [h1, h2]
  obtain ⟨v1, v2⟩ := nf_tf t ht f hf s hs
  by_cases h : a + 1 < n
  · rw [if_pos h] at b1 b2
    obtain ⟨e1, e2⟩ := tn_Pn (t := t) (f := f) (s := s) (b := b) ht hf hs h hb
    obtain ⟨g1, g2⟩ := bs_Pn (f := tf t f) hq ha hb
    rw [if_pos h] at g1 g2
    rw [b1, b2, e1, e2, c1, c2, g1, g2]
    refine ⟨⟨Pn_lt t1 ha hb, t2, Pn_lt hf h hb, by omega, t2⟩, rfl, by omega, ?_, hzero⟩
    rw [<- c1]; exact hinj
  · rw [if_neg h] at b1 b2
    have h0 : 0 < n := by omega
    obtain ⟨e1, e2⟩ := tn_Pn (t := t) ht f1 f2 h0 hb
    obtain ⟨g1, g2⟩ := bs_Pn (f := tf t f) hq ha hb
    rw [if_neg h, v1, v2] at g1
    rw [if_neg h, v2] at g2
    rw [b1, b2, e1, e2, c1, c2, g1, g2]
    refine ⟨⟨Pn_lt t1 ha hb, t2, Pn_lt f1 h0 hb, by omega, u2⟩, rfl, by omega, ?_, hzero⟩
    rw [<- c1]; exact hinj
def cr (n f i j : Nat) : P3 := pl (sc n (cC f)) (pl (sc (2 * i - n) (cR f)) (sc (2 * j - n) (cU f)))
def e1 (n f s i j : Nat) : P3 := match s with | 0 => cr n f (i + 1) j | 1 => cr n f i (j + 1) | 2 => cr n f i j | _ => cr n f i j
def e2 (n f s i j : Nat) : P3 := match s with | 0 => cr n f (i + 1) (j + 1) | 1 => cr n f (i + 1) (j + 1) | 2 => cr n f i (j + 1) | _ => cr n f (i + 1) j
def MD (n c : Nat) : P3 := md n (cf n c) (ci n c) (cj n c)
def C1 (n c s : Nat) : P3 := e1 n (cf n c) s (ci n c) (cj n c)
def C2 (n c s : Nat) : P3 := e2 n (cf n c) s (ci n c) (cj n c)
def LnC (n c s : Nat) : Nat := gp n (C1 n c s) (C2 n c s)
def GpC (n c s : Nat) : Nat := gp n (MD n c) (MD n (bsC n c s))
def ArC (n c : Nat) : Nat := ar n (cr n (cf n c) (ci n c) (cj n c)) (cr n (cf n c) (ci n c + 1) (cj n c)) (cr n (cf n c) (ci n c + 1) (cj n c + 1)) (cr n (cf n c) (ci n c) (cj n c + 1))
def Aw (n : Nat) (m w v : P3) : Nat := ar n (pl (pl m (sc (-1) w)) (sc (-1) v)) (pl (pl m w) (sc (-1) v)) (pl (pl m w) v) (pl (pl m (sc (-1) w)) v)
end Go.Proofs.YtdigecacmibkpaaGreatDoor
