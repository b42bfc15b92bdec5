/-
  Cells and sky together have as much as before: the walk (layer 18).
-/
import Derived.Test.YthcgbjkbnbeobaaRnC
namespace Go.Proofs.Ythcgbjkbnbeobaa
open Go.RowKit Go.Deep
namespace Rn
open Sh
set_option maxRecDepth 100000 in
set_option maxHeartbeats 16000000 in
theorem kept_bad {pw : Option Addr} {lw cw : Nat} {s : Int} {pr : Option Addr} {lr cr : Nat} {st : Int} (w : World)
    (LV : Hid (∀ v, Ab w v → Calls Try.prog 9 #[] v fun e w' => e = .returned (.bool true) ∧ Below v.heap.size v w'))
    (FL : Hid (∀ v, Ab w v → Calls Try.prog 12 #[.slice pw lw cw, .int .i64 s, .slice pr lr cr, .int .i64 st] v fun e w' => e = .returned (.tuple #[.slice none 0 0, .int .i64 0, .int .i64 1]) ∧ Below v.heap.size v w')) :
    Calls Try.prog 4 #[.agg #[.slice pw lw cw, .int .i64 s, .slice pr lr cr, .int .i64 st]] w fun e w' => e = .returned (.bool true) ∧ Below w.heap.size w w' := by
  have A0 : Hid (Ab w (w.alloc (.cells #[.slice pw lw cw, .int .i64 s, .slice pr lr cr, .int .i64 st] 25))) := bl1 _ _
  have R0 : Hid ((w.alloc (.cells #[.slice pw lw cw, .int .i64 s, .slice pr lr cr, .int .i64 st] 25)).heap[w.heap.size]? = some (.cells #[.slice pw lw cw, .int .i64 s, .slice pr lr cr, .int .i64 st] 25)) := heap_alloc_new _ _
  go_enter Try.func4, Try.ntmps4
  go_upto_region 1 with fail
  generalize hW : World.alloc w _ = W0 at *
  obtain ⟨gw, hgw⟩ : ∃ g, w.heap.size = g := ⟨_, rfl⟩
  rw [hgw] at R0 ⊢
  clear hgw hW
  go_wp2_with fail
  refine (LV.out _ A0.out).mono ?_
  rintro e9 v1 ⟨rfl, b1⟩
  have A1 : Hid (Ab w v1) := A0.out.trans b1
  have R1 := hid (Ab.heap b1 R0.out)
  clear b1 A0 R0
  have x0 := cell_of_row _ _ 0 _ _ _ R1.out
  have x1 := cell_of_row _ _ 1 _ _ _ R1.out
  have x2 := cell_of_row _ _ 2 _ _ _ R1.out
  have x3 := cell_of_row _ _ 3 _ _ _ R1.out
  go_wp2_with fail
  refine (FL.out _ A1.out).mono ?_
  rintro e9 v2 ⟨rfl, b2⟩
  have A2 : Hid (Ab w v2) := A1.out.trans b2
  clear b2
  go_wp2
  go_ret
  exact ⟨rfl, A2.out⟩
set_option maxRecDepth 100000 in
set_option maxHeartbeats 16000000 in
theorem kept_go {pw : Option Addr} {lw cw : Nat} {s : Int} {pr : Option Addr} {lr cr : Nat} {st : Int} {W : Nat → Int} (X : Nat → Int) (y : Int) (w : World) (hy : 0 ≤ y) (hlw : lw ≤ 17592186044416) (IW : Hid (IsI w pw lw W))
    (LV : Hid (∀ v, Ab w v → Calls Try.prog 9 #[] v fun e w' => e = .returned (.bool true) ∧ Below v.heap.size v w'))
    (FL : Hid (∀ v, Ab w v → Calls Try.prog 12 #[.slice pw lw cw, .int .i64 s, .slice pr lr cr, .int .i64 st] v fun e w' => ∃ a0 cap, e = .returned (.tuple #[.slice a0 lw cap, .int .i64 y, .int .i64 0]) ∧ Below v.heap.size v w' ∧ IsI w' a0 lw X))
    (HB : Hid (∀ i, i < lw → 0 ≤ W i ∧ W i ≤ 4503599627370496 ∧ 0 ≤ X i))
    (SB : Hid (lw ≤ 1024 → ∀ k, k ≤ lw → (0 ≤ s + sumN W k ∧ s + sumN W k ≤ 9223372036854775807) ∧ 0 ≤ y + sumN X k ∧ y + sumN X k ≤ 9223372036854775807))
    (KP : Hid (s + sumN W lw = y + sumN X lw)) :
    Calls Try.prog 4 #[.agg #[.slice pw lw cw, .int .i64 s, .slice pr lr cr, .int .i64 st]] w fun e w' => e = .returned (.bool true) ∧ Below w.heap.size w w' := by
  have HLW := hid hlw
  have nn : ((lw : Int) != (lw : Int)) = false := by simp
  have dy : decide (y < 0) = false := decide_eq_false (by omega)
  have A0 : Hid (Ab w (w.alloc (.cells #[.slice pw lw cw, .int .i64 s, .slice pr lr cr, .int .i64 st] 25))) := bl1 _ _
  have R0 : Hid ((w.alloc (.cells #[.slice pw lw cw, .int .i64 s, .slice pr lr cr, .int .i64 st] 25)).heap[w.heap.size]? = some (.cells #[.slice pw lw cw, .int .i64 s, .slice pr lr cr, .int .i64 st] 25)) := heap_alloc_new _ _
  go_enter Try.func4, Try.ntmps4
  go_upto_region 1 with fail
  generalize hW : World.alloc w _ = W0 at *
  obtain ⟨gw, hgw⟩ : ∃ g, w.heap.size = g := ⟨_, rfl⟩
  rw [hgw] at R0 ⊢
  clear hgw hW
  go_wp2_with fail
  refine (LV.out _ A0.out).mono ?_
  rintro e9 v1 ⟨rfl, b1⟩
  have A1 : Hid (Ab w v1) := A0.out.trans b1
  have R1 := hid (Ab.heap b1 R0.out)
  clear b1 A0 R0
  have x0 := cell_of_row _ _ 0 _ _ _ R1.out
  have x1 := cell_of_row _ _ 1 _ _ _ R1.out
  have x2 := cell_of_row _ _ 2 _ _ _ R1.out
  have x3 := cell_of_row _ _ 3 _ _ _ R1.out
  go_wp2_with fail
  refine (FL.out _ A1.out).mono ?_
  rintro e9 v2 ⟨a2, c2, rfl, b2, i2⟩
  have A2 : Hid (Ab w v2) := A1.out.trans b2
  have R2 := hid (Ab.heap b2 R1.out)
  have I2 := hid i2
  clear b2 i2 x0 x1 x2 x3 A1 R1
  have x0 := cell_of_row _ _ 0 _ _ _ R2.out
  have x1 := cell_of_row _ _ 1 _ _ _ R2.out
  by_cases h1 : 1024 < lw
  · have d1 : decide ((1024 : Int) < (lw : Int)) = true := decide_eq_true (by omega)
    go_wp2
    go_ret
    exact ⟨rfl, A2.out⟩
  · have d1 : decide ((1024 : Int) < (lw : Int)) = false := decide_eq_false (by omega)
    have HS := hid (SB.out (by omega))
    have HL2 : Hid (lw ≤ 1024) := by show _ ≤ _; omega
    clear h1 SB
    go_wp2
    go_loopw [6, 7, 8] (fun bv av iv wr => ∃ c : Nat, c ≤ lw ∧ iv = .int .i64 (c : Nat) ∧ bv = .int .i64 (s + sumN W c) ∧ av = .int .i64 (y + sumN X c) ∧ Ab v2 wr) (fun _ _ iv _ => lw - (intOf iv).toNat)
    case atStart => exact ⟨0, by omega, rfl, by show Value.int .i64 s = .int .i64 (s + 0); rw [Int.add_zero], by show Value.int .i64 y = .int .i64 (y + 0); rw [Int.add_zero], Ab.refl v2⟩
    case round =>
      obtain ⟨c, hc, rfl, rfl, rfl, ar⟩ := hrel
      have AR := hid ar
      clear ar x0 x1
      obtain ⟨p, hp⟩ : ∃ p, s + sumN W c = p := ⟨_, rfl⟩
      obtain ⟨q, hq⟩ : ∃ q, y + sumN X c = q := ⟨_, rfl⟩
      have PE := hid hp
      have QE := hid hq
      rw [hp, hq]
      clear hp hq
      by_cases hcn : c < lw
      · have HC := hid hcn
        have hcI : (c : Int) < lw := by omega
        have hcB : (c : Int) ≤ 1024 := by have := HL2.out; omega
        obtain ⟨b0, o0, rfl⟩ := IW.out.some0 (show 0 < lw by omega)
        obtain ⟨b2, o2, rfl⟩ := I2.out.some0 (show 0 < lw by omega)
        obtain ⟨x, hx⟩ : ∃ x, W c = x := ⟨_, rfl⟩
        obtain ⟨z, hz⟩ : ∃ z, X c = z := ⟨_, rfl⟩
        have xc : wr.cell? ⟨b0, o0 + c, none⟩ = some (.int .i64 x) := by rw [← hx]; exact (Below.cell (A2.out.trans AR.out) (IW.out.at0 hcn).2.1).trans (IW.out.at0 hcn).2.2
        have zc : wr.cell? ⟨b2, o2 + c, none⟩ = some (.int .i64 z) := by rw [← hz]; exact (Below.cell AR.out (I2.out.at0 hcn).2.1).trans (I2.out.at0 hcn).2.2
        have y0 := cell_of_row _ _ 0 _ _ _ (AR.out.heap R2.out)
        have hb := HB.out c hcn
        rw [hx, hz] at hb
        have s1 := HS.out c hc
        have s2 := HS.out (c + 1) hcn
        have eW : sumN W (c + 1) = sumN W c + x := by show sumN W c + W c = _; rw [hx]
        have eX : sumN X (c + 1) = sumN X c + z := by show sumN X c + X c = _; rw [hz]
        rw [eW, eX, ← Int.add_assoc, ← Int.add_assoc, PE.out, QE.out] at s2
        have EW : Hid (s + sumN W (c + 1) = p + x) := by show _ = _; rw [eW, ← Int.add_assoc, PE.out]
        have EX : Hid (y + sumN X (c + 1) = q + z) := by show _ = _; rw [eX, ← Int.add_assoc, QE.out]
        rw [PE.out, QE.out] at s1
        have k1 := s1.1.1
        have k2 := s1.1.2
        have k3 := s1.2.1
        have k4 := s1.2.2
        have k5 := s2.1.1
        have k6 := s2.1.2
        have k7 := s2.2.1
        have k8 := s2.2.2
        have d2 : decide (z < 0) = false := decide_eq_false (by omega)
        clear hx hz hb s1 s2 eW eX hcn hc
        go_wp2
        exact ⟨⟨c + 1, by have := HC.out; omega, by simp, by rw [EW.out], by rw [EX.out], AR.out⟩, by have := HC.out; simp [intOf]; omega⟩
      · have e6 : lw = c := by omega
        subst e6
        have pq : p = q := by rw [← PE.out, ← QE.out]; exact KP.out
        subst pq
        go_wp2
        go_ret
        exact ⟨by simp, A2.out.trans AR.out⟩
theorem kept_at (VC : ValidC) (FC : FallC) {pw : Option Addr} {lw cw : Nat} {s : Int} {pr : Option Addr} {lr cr : Nat} {st : Int} {W : Nat → Int} {R : Nat → Int × Int × Int × Int} (w : World) (hs : Sh.W64 s) (ht : Sh.W64 st) (hlw : lw ≤ 17592186044416) (hlr : lr ≤ 17592186044416) (iw : IsI w pw lw W) (ir : IsRn w pr lr R) :
    Calls Try.prog 4 #[.agg #[.slice pw lw cw, .int .i64 s, .slice pr lr cr, .int .i64 st]] w fun e w' => e = .returned (.bool true) ∧ Below w.heap.size w w' := by
  have LV : Hid (∀ v, Ab w v → Calls Try.prog 9 #[] v fun e w' => e = .returned (.bool true) ∧ Below v.heap.size v w') := fun v _ => awake18_at VC FC v
  have F := fun v (a : Ab w v) => FC pw lw cw W s pr lr cr R st v hs ht hlw hlr (iw.below a) (ir.below a)
  by_cases g : good18 lw W s lr R st
  · have k := good18_ok g
    have kp := rnN_kept (st := st) (R := R) (X := (W, s)) (n := lw) (k := lr) g.2.2.2.2
    refine kept_go (rnN st R (W, s) lr).1 (rnN st R (W, s) lr).2 w k.2.1 hlw iw LV (fun v a => ((F v a).1 g).mono ?_) (fun i hi => ⟨(g.2.2.2.1 i hi).1, (g.2.2.2.1 i hi).2, (k.1 i hi).1⟩) (fun h j hj => ?_) ?_
    · rintro e w' ⟨u, rfl, b, o⟩
      obtain ⟨a0, cap, rfl, i⟩ := own_rn g o
      exact ⟨a0, cap, rfl, b, i⟩
    · have w0 := sumN_nn (f := W) (n := j) (fun i hi => (g.2.2.2.1 i (by omega)).1)
      have wm := sumN_mono (f := W) (n := lw) (fun i hi => (g.2.2.2.1 i hi).1) hj
      have x0 := sumN_nn (f := (rnN st R (W, s) lr).1) (n := j) (fun i hi => (k.1 i (by omega)).1)
      have xm := sumN_mono (f := (rnN st R (W, s) lr).1) (n := lw) (fun i hi => (k.1 i hi).1) hj
      have wb : sumN W lw ≤ 4503599627370496 * lw := by
        have q := sumN_le (f := W) (g := fun _ => 4503599627370496) (n := lw) (fun i hi => (g.2.2.2.1 i hi).2)
        have e : ∀ m : Nat, sumN (fun _ => 4503599627370496) m = 4503599627370496 * (m : Int) := fun m => by
          induction m with
          | zero => rfl
          | succ m ih => show sumN (fun _ => 4503599627370496) m + 4503599627370496 = _; rw [ih]; omega
        rw [e] at q
        exact q
      have s0 := g.2.1
      have y0 := k.2.1
      dsimp only at kp
      omega
    · show _ = _
      dsimp only at kp
      omega
  · exact kept_bad w LV (fun v a => (F v a).2 g)
end Rn
end Go.Proofs.Ythcgbjkbnbeobaa
