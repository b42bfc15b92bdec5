/-
  The fixed answers: a walk over the program.
-/
import Derived.Test.YtgbnabpbheebjaaGw
namespace Go.Proofs.Ytgbnabpbheebjaa
open Go.RowKit Tf
attribute [local go_sem] run_bits run_from raw_feq raw_fne raw_flt raw_fgt run_neg

def awx : Nat → Nat
  | 0 => 4607182418800017408
  | 1 => 1
  | _ => 13830554455654793216
theorem aw1 : valB (sumS awx 3) = 1 := by decide +kernel
def awS : AS := stepA (stepP (stepP S0 7598952565167317594 7598952565167317594) 16822324602022093402 7598952565167317594) 4602678819172646912
theorem aw2 : valB awS = 4602678819172646912 := by decide +kernel
theorem aw3 : feq 1 1 = true := by decide +kernel
theorem aw4 : feq 4602678819172646912 4602678819172646912 = true := by decide +kernel

theorem aw_list (w : World) (T : TypeId) : IsFl (w.alloc (.cells #[.float .f64 4607182418800017408, .float .f64 1, .float .f64 13830554455654793216] T)) (some ⟨w.heap.size, 0, none⟩) 3 awx := by
  intro k hk
  have : k = 0 ∨ k = 1 ∨ k = 2 := by omega
  rcases this with rfl | rfl | rfl
  · exact ⟨by decide, w.heap.size, 0, rfl, by simp, by rw [cell_of_row _ _ _ _ _ _ (heap_alloc_new _ _)]; rfl⟩
  · exact ⟨by decide, w.heap.size, 0, rfl, by simp, by rw [cell_of_row _ _ _ _ _ _ (heap_alloc_new _ _)]; rfl⟩
  · exact ⟨by decide, w.heap.size, 0, rfl, by simp, by rw [cell_of_row _ _ _ _ _ _ (heap_alloc_new _ _)]; rfl⟩
theorem S0_c : S0.c = 0 := rfl

set_option maxHeartbeats 4000000 in
theorem awake_any (w : World) : Calls Try.prog 9 #[] w fun e w' => e = .returned (.bool true) ∧ Hid (Below w.heap.size w w') := by
  have f1 := aw3
  have f2 := aw4
  have SU := hid (fun (w : World) => sum_at (some ⟨w.heap.size, 0, none⟩) 3 3 awx (w.alloc (.cells #[.float .f64 4607182418800017408, .float .f64 1, .float .f64 13830554455654793216] 30)) (by decide) (aw_list w _))
  rw [aw1] at SU
  go_enter Try.func9, Try.ntmps9
  go_wp2_with fail
  refine (SU.out w).mono ?_
  rintro e w1 ⟨rfl, b1⟩
  have B1 : Hid (Below w.heap.size w w1) := ((Below.refl _ _).alloc (by omega) _).trans (b1.out.mono (by simp))
  clear b1 SU
  go_wp2_with fail
  refine (new_go _).mono ?_
  rintro e w2 ⟨rfl, rfl⟩
  have hs := B1.out.size
  have I2 : Hid (IsAcc w1.heap.size S0 (w1.alloc (.cells (encA S0) 56))) := heap_alloc_new _ _
  have B2 : Hid (Below w.heap.size w (w1.alloc (.cells (encA S0) 56))) := B1.out.alloc hs _
  obtain ⟨g, hg⟩ : ∃ g, w1.heap.size = g := ⟨_, rfl⟩
  obtain ⟨w2, hw2⟩ : ∃ W, w1.alloc (.cells (encA S0) 56) = W := ⟨_, rfl⟩
  rw [hg] at hs I2 ⊢
  rw [hw2] at I2 B2 ⊢
  have HS := hid hs
  clear hg hw2 B1 hs
  have g0 := good0
  have G1 := hid (addp_at g 7598952565167317594 7598952565167317594 S0 w2 (by decide) (by decide) I2.out g0.c0 (by decide) g0.n0 g0.n1)
  go_wp2_with fail
  refine G1.out.mono ?_
  rintro e w3 ⟨rfl, I3, b3⟩
  have B3 : Hid (Below w.heap.size w w3) := B2.out.trans (b3.out.below HS.out B2.out.size)
  have g1 := stepP_good g0 7598952565167317594 7598952565167317594 (by decide)
  have c1 := stepP_c S0 7598952565167317594 7598952565167317594
  have G2 := hid (addp_at g 16822324602022093402 7598952565167317594 _ w3 (by decide) (by decide) I3.out g1.c0 (by rw [c1]; decide) g1.n0 g1.n1)
  clear G1 I2 B2 b3 I3
  go_wp2_with fail
  refine G2.out.mono ?_
  rintro e w4 ⟨rfl, I4, b4⟩
  have B4 : Hid (Below w.heap.size w w4) := B3.out.trans (b4.out.below HS.out B3.out.size)
  have g2 := stepP_good g1 16822324602022093402 7598952565167317594 (by rw [c1]; decide)
  have c2 := stepP_c (stepP S0 7598952565167317594 7598952565167317594) 16822324602022093402 7598952565167317594
  have G3 := hid (add_at g 4602678819172646912 _ w4 (by decide) I4.out g2 (by rw [c2, c1]; decide))
  clear G2 B3 b4 I4
  go_wp2_with fail
  refine G3.out.mono ?_
  rintro e w5 ⟨rfl, I5, b5⟩
  have B5 : Hid (Below w.heap.size w w5) := B4.out.trans (b5.out.below HS.out B4.out.size)
  have g3 : Good awS := stepP_good g2 4602678819172646912 ONE (by rw [c2, c1]; decide)
  have c3 : awS.c = 3 := by decide +kernel
  have I6 : IsAcc g awS w5 := I5.out
  have V1 := hid (value_at g awS w5 I6 g3.c0 g3.h0 g3.h1)
  rw [aw2] at V1
  clear G3 B4 b5 I5 g2 g1 c1 c2 g0
  go_wp2_with fail
  refine V1.out.mono ?_
  rintro e w6 ⟨rfl, b6⟩
  have B6 : Hid (Below w.heap.size w w6) := B5.out.trans (b6.mono B5.out.size)
  have I7 : IsAcc g awS w6 := by
    unfold IsAcc
    rw [b6.block g (row_lt I6)]; exact I6
  have C1 := I7.c0
  rw [c3] at C1
  have CC := hid (count_at g 3 w6 C1)
  clear C1 I7 I6 b6 B5 V1 g3 c3
  go_wp2_with fail
  refine CC.out.mono ?_
  rintro e w7 ⟨rfl, rfl⟩
  go_wp2
  go_ret
  exact ⟨rfl, B6⟩
end Go.Proofs.Ytgbnabpbheebjaa
