/-
  That the program lives; what is kept: walks (layer 18).
-/
import Derived.Test.YthcgbjkbnbeobaaRnB
namespace Go.Proofs.Ythcgbjkbnbeobaa
open Go.RowKit Go.Deep
namespace Rn
open Sh
theorem size1 (w : World) (o : Obj) : (w.alloc o).heap.size = w.heap.size + 1 := by simp
set_option maxRecDepth 100000 in
set_option maxHeartbeats 16000000 in
theorem awake18_at (VC : ValidC) (FC : FallC) (w : World) :
    Calls Try.prog 9 #[] w fun e w' => e = .returned (.bool true) ∧ Below w.heap.size w w' := by
  have F1 := hid ((FC (some ⟨w.heap.size, 0, none⟩) 2 2 awW 3 (some ⟨w.heap.size + 1, 0, none⟩) 2 2 awR 0 ((w.alloc (.cells #[.int .i64 1, .int .i64 2] 2)).alloc (.cells #[.int .i64 0, .int .i64 4, .int .i64 0, .int .i64 5, .int .i64 1, .int .i64 4, .int .i64 0, .int .i64 5] 29)) (by unfold Sh.W64; decide) (by unfold Sh.W64; decide) (by omega) (by omega) ((two_in18 w 1 2 (by unfold Sh.W64; decide) (by unfold Sh.W64; decide) rfl rfl).below (bl1 _ _)) (by have h := two_rn (w.alloc (.cells #[.int .i64 1, .int .i64 2] 2)) (0, 4, 0, 5) (1, 4, 0, 5) (by unfold W4 Sh.W64; decide) (by unfold W4 Sh.W64; decide) (R := awR) rfl rfl; rw [size1] at h; exact h)).1 awR_good)
  rw [show (List.range 2).map (rnN 0 awR (awW, 3) 2).1 = [4, 2] by decide, awR_ok.2.2] at F1
  have A0 : Hid (Ab w ((w.alloc (.cells #[.int .i64 1, .int .i64 2] 2)).alloc (.cells #[.int .i64 0, .int .i64 4, .int .i64 0, .int .i64 5, .int .i64 1, .int .i64 4, .int .i64 0, .int .i64 5] 29))) := bl2 _ _ _
  have V1 : Hid (∀ v, Calls Try.prog 10 #[.int .i64 6, .agg #[.int .i64 6, .int .i64 0, .int .i64 0, .int .i64 0]] v fun e w' => e = .returned (.bool false) ∧ Below v.heap.size v w') := fun v => VC 6 (6, 0, 0, 0) v (by unfold Sh.W64; decide) (by unfold W4 Sh.W64; decide)
  have HF := hid FC
  clear VC FC
  go_enter Try.func9, Try.ntmps9
  go_wp2_with fail
  refine F1.out.mono ?_
  rintro e9 v1 ⟨v, rfl, b1, o1⟩
  obtain ⟨a1, c1, rfl, i1⟩ := own_in o1 (fun x hx => by simp at hx; unfold Sh.W64; omega)
  have A1 : Hid (Ab w v1) := A0.out.trans b1
  have I1 := hid i1
  clear b1 o1 i1 F1 A0
  have FC := HF.out
  have F2 := hid ((FC (some ⟨v1.heap.size, 0, none⟩) 2 2 awW 0 (some ⟨v1.heap.size + 1, 0, none⟩) 2 2 awQ 0 ((v1.alloc (.cells #[.int .i64 1, .int .i64 2] 2)).alloc (.cells #[.int .i64 1, .int .i64 (-5), .int .i64 0, .int .i64 1, .int .i64 0, .int .i64 1, .int .i64 0, .int .i64 1] 29)) (by unfold Sh.W64; decide) (by unfold Sh.W64; decide) (by omega) (by omega) ((two_in18 v1 1 2 (by unfold Sh.W64; decide) (by unfold Sh.W64; decide) rfl rfl).below (bl1 _ _)) (by have h := two_rn (v1.alloc (.cells #[.int .i64 1, .int .i64 2] 2)) (1, -5, 0, 1) (0, 1, 0, 1) (by unfold W4 Sh.W64; decide) (by unfold W4 Sh.W64; decide) (R := awQ) rfl rfl; rw [size1] at h; exact h)).1 awQ_good)
  rw [show (List.range 2).map (rnN 0 awQ (awW, 0) 2).1 = [2, 0] by decide, awQ_ok.2.2] at F2
  clear FC HF
  have A2 : Hid (Ab v1 ((v1.alloc (.cells #[.int .i64 1, .int .i64 2] 2)).alloc (.cells #[.int .i64 1, .int .i64 (-5), .int .i64 0, .int .i64 1, .int .i64 0, .int .i64 1, .int .i64 0, .int .i64 1] 29))) := bl2 _ _ _
  go_wp2_with fail
  refine F2.out.mono ?_
  rintro e9 v2 ⟨v, rfl, b2, o2⟩
  obtain ⟨a2, c2, rfl, i2⟩ := own_in o2 (fun x hx => by simp at hx; unfold Sh.W64; omega)
  have A3 : Hid (Ab v1 v2) := A2.out.trans b2
  have I2 := hid i2
  clear b2 o2 i2 F2 A2
  have S1 : Hid (Ab v2 (v2.alloc (.cells #[.int .i64 4, .int .i64 2] 2))) := bl1 _ _
  have M1 := hid (same18_at a1 (some ⟨v2.heap.size, 0, none⟩) 2 c1 2 _ (v2.alloc (.cells #[.int .i64 4, .int .i64 2] 2)) (by omega) (I1.out.below (A3.out.trans S1.out)) (two_in18 v2 4 2 (by unfold Sh.W64; decide) (by unfold Sh.W64; decide) rfl rfl))
  go_wp2_with fail
  refine M1.out.mono ?_
  rintro e9 v3 ⟨rfl, b3⟩
  have A4 : Hid (Ab v2 v3) := S1.out.trans b3
  clear b3 M1 S1
  have S2 : Hid (Ab v3 (v3.alloc (.cells #[.int .i64 2, .int .i64 0] 2))) := bl1 _ _
  have M2 := hid (same18_at a2 (some ⟨v3.heap.size, 0, none⟩) 2 c2 2 _ (v3.alloc (.cells #[.int .i64 2, .int .i64 0] 2)) (by omega) (I2.out.below (A4.out.trans S2.out)) (two_in18 v3 2 0 (by unfold Sh.W64; decide) (by unfold Sh.W64; decide) rfl rfl))
  go_wp2_with fail
  refine M2.out.mono ?_
  rintro e9 v4 ⟨rfl, b4⟩
  have A5 : Hid (Ab v3 v4) := S2.out.trans b4
  clear b4 M2 S2
  go_wp2_with fail
  refine (V1.out _).mono ?_
  rintro e9 v5 ⟨rfl, b5⟩
  have A6 : Hid (Ab w v5) := A1.out.trans (A3.out.trans (A4.out.trans (A5.out.trans b5)))
  clear b5
  go_wp2
  go_ret
  exact ⟨rfl, A6.out⟩
end Rn
end Go.Proofs.Ythcgbjkbnbeobaa
