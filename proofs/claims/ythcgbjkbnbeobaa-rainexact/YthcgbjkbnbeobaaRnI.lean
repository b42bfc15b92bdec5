/-
  Rains against the document's answer: the walk (layer 18).
-/
import Derived.Test.YthcgbjkbnbeobaaRnH
namespace Go.Proofs.Ythcgbjkbnbeobaa
open Go.RowKit Go.Deep
namespace Rn
open Sh
set_option maxRecDepth 100000 in
set_option maxHeartbeats 16000000 in
theorem exact18_go {pw : Option Addr} {lw cw : Nat} {s : Int} {pr : Option Addr} {lr cr : Nat} {st : Int} {R : Nat → Int × Int × Int × Int} (cells : Int) (m : Nat) (X : Nat → Int) (y er : Int) (w : World) (hlr : lr ≤ 17592186044416) (hlw : lw ≤ 17592186044416) (hm : m ≤ 17592186044416) (hcl : Sh.W64 cells) (IR : Hid (IsRn w pr lr R))
    (LV : Hid (∀ v, Ab w v → Calls Try.prog 9 #[] v fun e w' => e = .returned (.bool true) ∧ Below v.heap.size v w'))
    (VL : Hid (∀ n r1 r2 r3 r4 v, Sh.W64 n → W4 (r1, r2, r3, r4) → Calls Try.prog 10 #[.int .i64 n, .agg #[.int .i64 r1, .int .i64 r2, .int .i64 r3, .int .i64 r4]] v fun e w' => e = .returned (.bool (vB n (r1, r2, r3, r4))) ∧ Below v.heap.size v w'))
    (FL : Hid (∀ v, Ab w v → Calls Try.prog 12 #[.slice pw lw cw, .int .i64 s, .slice pr lr cr, .int .i64 st] v fun e w' => ∃ a0 cap, e = .returned (.tuple #[.slice a0 m cap, .int .i64 y, .int .i64 er]) ∧ Below v.heap.size v w' ∧ IsI w' a0 m X))
    (F2 : Hid (∀ v, Ab w v → Calls Try.prog 13 #[.slice pw lw cw, .int .i64 s, .slice pr lr cr, .int .i64 st] v fun e w' => ∃ a0 cap, e = .returned (.tuple #[.slice a0 m cap, .int .i64 y, .int .i64 er]) ∧ Below v.heap.size v w' ∧ IsI w' a0 m X)) :
    Calls Try.prog 3 #[.agg #[.slice pw lw cw, .int .i64 s, .slice pr lr cr, .int .i64 st], .int .i64 cells] w fun e w' => e = .returned (.bool true) ∧ Below w.heap.size w w' := by
  have HLR := hid hlr
  have HLW := hid hlw
  have HM := hid hm
  have HCL := hid hcl
  clear hlr hlw hm hcl
  have A0 : Hid (Ab w (w.alloc (.cells #[.slice pw lw cw, .int .i64 s, .slice pr lr cr, .int .i64 st] 25))) := bl1 _ _
  have R0 : Hid ((w.alloc (.cells #[.slice pw lw cw, .int .i64 s, .slice pr lr cr, .int .i64 st] 25)).heap[w.heap.size]? = some (.cells #[.slice pw lw cw, .int .i64 s, .slice pr lr cr, .int .i64 st] 25)) := heap_alloc_new _ _
  go_enter Try.func3, Try.ntmps3
  go_upto_region 1 with fail
  generalize hW : World.alloc w _ = W0 at *
  obtain ⟨gw, hgw⟩ : ∃ g, w.heap.size = g := ⟨_, rfl⟩
  rw [hgw] at R0 ⊢
  clear hgw hW
  go_wp2_with fail
  refine (LV.out _ A0.out).mono ?_
  rintro e9 v1 ⟨rfl, b1⟩
  have A1 : Hid (Ab w v1) := A0.out.trans b1
  have R1 := hid (Ab.heap b1 R0.out)
  clear b1 A0 R0
  clear LV
  go_wp2
  go_loopw [5] (fun iv wr => ∃ c : Nat, c ≤ lr ∧ iv = .int .i64 (c : Nat) ∧ Ab v1 wr) (fun iv _ => lr - (intOf iv).toNat)
  case atStart => exact ⟨0, by omega, rfl, Ab.refl v1⟩
  case round =>
    obtain ⟨c, hc, rfl, ar⟩ := hrel
    have AR := hid ar
    clear ar
    have x2 := cell_of_row _ _ 2 _ _ _ (AR.out.heap R1.out)
    by_cases hcn : c < lr
    · have HC := hid hcn
      have hcI : (c : Int) < lr := by omega
      have hcB : (c : Int) ≤ 17592186044416 := by have := HLR.out; omega
      obtain ⟨rb, ro, rfl⟩ := IR.out.some0 (show 0 < lr by omega)
      obtain ⟨r1, r2, r3, r4, hr⟩ : ∃ a b c' d, R c = (a, b, c', d) := ⟨_, _, _, _, rfl⟩
      have RC : Hid (∀ v, Ab v1 v → v.cell? ⟨rb, ro + c * 4, none⟩ = some (.int .i64 r1) ∧ v.cell? ⟨rb, ro + c * 4 + 1, none⟩ = some (.int .i64 r2) ∧ v.cell? ⟨rb, ro + c * 4 + 2, none⟩ = some (.int .i64 r3) ∧ v.cell? ⟨rb, ro + c * 4 + 3, none⟩ = some (.int .i64 r4)) := fun v a => by
        have h := ((IR.out.below (A1.out.trans a)).at0 hcn).2.2
        rw [hr] at h
        exact h
      have W4r : W4 (r1, r2, r3, r4) := by rw [← hr]; exact (IR.out c hcn).1
      obtain ⟨p1, hp1⟩ : ∃ b, vB cells (r1, r2, r3, r4) = b := ⟨_, rfl⟩
      obtain ⟨p2, hp2⟩ : ∃ b, vB (lw : Nat) (r1, r2, r3, r4) = b := ⟨_, rfl⟩
      have V1 := hid (fun v => VL.out cells r1 r2 r3 r4 v HCL.out W4r)
      have V2 := hid (fun v => VL.out (lw : Nat) r1 r2 r3 r4 v (by unfold Sh.W64; have := HLW.out; omega) W4r)
      have V3 := hid (fun v => rvalid18 cells r1 r2 r3 r4 v)
      have V4 := hid (fun v => rvalid18 (lw : Nat) r1 r2 r3 r4 v)
      rw [hp1] at V1 V3
      rw [hp2] at V2 V4
      have b1 : (p1 != p1) = false := by simp
      have b2 : (p2 != p2) = false := by simp
      clear hr hcn hc hp1 hp2 W4r
      go_upto_region 6 with fail
      obtain ⟨UU, E, hF1, hF2⟩ := cls wr
      have HU := hid hF2
      have HU1 := hid hF1
      have e1 : ∀ u, (E u).cell? ⟨gw, 2, none⟩ = some (.slice (some ⟨rb, ro, none⟩) lr cr) := fun u => cell_of_row _ _ 2 _ _ _ ((AR.out.trans (hF1 u)).heap R1.out)
      have e2 : ∀ u, (E u).cell? ⟨gw, 0, none⟩ = some (.slice pw lw cw) := fun u => cell_of_row _ _ 0 _ _ _ ((AR.out.trans (hF1 u)).heap R1.out)
      have e3 : ∀ u, (E u).cell? ⟨rb, ro + c * 4, none⟩ = some (.int .i64 r1) := fun u => (RC.out _ (AR.out.trans (hF1 u))).1
      have e4 : ∀ u, (E u).cell? ⟨rb, ro + c * 4 + 1, none⟩ = some (.int .i64 r2) := fun u => (RC.out _ (AR.out.trans (hF1 u))).2.1
      have e5 : ∀ u, (E u).cell? ⟨rb, ro + c * 4 + 2, none⟩ = some (.int .i64 r3) := fun u => (RC.out _ (AR.out.trans (hF1 u))).2.2.1
      have e6 : ∀ u, (E u).cell? ⟨rb, ro + c * 4 + 3, none⟩ = some (.int .i64 r4) := fun u => (RC.out _ (AR.out.trans (hF1 u))).2.2.2
      have DD0 := HU.out _ (Ab.refl wr).drew
      clear hF1 hF2
      refine region_cls E (by kernel_rfl) (by kernel_rfl) DD0 ?_
      repeat (go_big_quiet_step (first | (go_at_call_of 10 (Value.int .i64 cells); exact calls_cls HU HU1 (V1.out _)) | (go_at_call_of 11 (Value.int .i64 cells); exact calls_cls HU HU1 (V3.out _)) | (go_at_call_of 10 (Value.int .i64 (lw : Nat)); exact calls_cls HU HU1 (V2.out _)) | (go_at_call_of 11 (Value.int .i64 (lw : Nat)); exact calls_cls HU HU1 (V4.out _)) | (with_reducible rfl)))
      refine wpQuiet_nil ?_
      intro v6 hwz
      obtain ⟨u0, hu⟩ := hwz
      have A6 : Hid (Ab wr v6) := by rw [hu]; exact HU1.out u0
      clear hu u0
      clear HU HU1 DD0 e1 e2 e3 e4 e5 e6
      clear E UU
      go_wp2
      exact ⟨⟨c + 1, by have := HC.out; omega, by simp, AR.out.trans A6.out⟩, by have := HC.out; simp [intOf]; omega⟩
    · have e6 : lr = c := by omega
      subst e6
      have A2 : Hid (Ab w wr) := A1.out.trans AR.out
      have R2 := hid (Ab.heap AR.out R1.out)
      clear x2
      have x0 := cell_of_row _ _ 0 _ _ _ R2.out
      have x1 := cell_of_row _ _ 1 _ _ _ R2.out
      have x2 := cell_of_row _ _ 2 _ _ _ R2.out
      have x3 := cell_of_row _ _ 3 _ _ _ R2.out
      go_wp2_with fail
      refine (FL.out _ A2.out).mono ?_
      rintro e9 v3 ⟨a3, c3, rfl, b3, i3⟩
      have A3 : Hid (Ab w v3) := A2.out.trans b3
      have R3 := hid (Ab.heap b3 R2.out)
      have I3 := hid i3
      clear b3 i3 x0 x1 x2 x3
      have x0 := cell_of_row _ _ 0 _ _ _ R3.out
      have x1 := cell_of_row _ _ 1 _ _ _ R3.out
      have x2 := cell_of_row _ _ 2 _ _ _ R3.out
      have x3 := cell_of_row _ _ 3 _ _ _ R3.out
      go_wp2_with fail
      refine (F2.out _ A3.out).mono ?_
      rintro e9 v4 ⟨a4, c4, rfl, b4, i4⟩
      have A4 : Hid (Ab w v4) := A3.out.trans b4
      have I34 := hid (I3.out.below b4)
      have I4 := hid i4
      clear b4 i4 x0 x1 x2 x3
      have t1 : (er == er) = true := by simp
      have t2 : (y == y) = true := by simp
      go_wp2_with fail
      refine (same18_at a3 a4 m c3 c4 X v4 (by have := HM.out; omega) I34.out I4.out).mono ?_
      rintro e9 u7 ⟨rfl, b7⟩
      have A10 : Hid (Ab w u7) := A4.out.trans b7
      clear b7
      go_wp2
      go_ret
      exact ⟨rfl, A10.out⟩
set_option maxRecDepth 100000 in
set_option maxHeartbeats 4000000 in
theorem exact18_at (VC : ValidC) (FC : FallC) {pw : Option Addr} {lw cw : Nat} {s : Int} {pr : Option Addr} {lr cr : Nat} {st : Int} {W : Nat → Int} {R : Nat → Int × Int × Int × Int} (cells : Int) (w : World) (hs : Sh.W64 s) (ht : Sh.W64 st) (hcl : Sh.W64 cells) (hlw : lw ≤ 17592186044416) (hlr : lr ≤ 17592186044416) (iw : IsI w pw lw W) (ir : IsRn w pr lr R) :
    Calls Try.prog 3 #[.agg #[.slice pw lw cw, .int .i64 s, .slice pr lr cr, .int .i64 st], .int .i64 cells] w fun e w' => e = .returned (.bool true) ∧ Below w.heap.size w w' := by
  have LV : Hid (∀ v, Ab w v → Calls Try.prog 9 #[] v fun e w' => e = .returned (.bool true) ∧ Below v.heap.size v w') := fun v _ => awake18_at VC FC v
  have F := fun v (a : Ab w v) => FC pw lw cw W s pr lr cr R st v hs ht hlw hlr (iw.below a) (ir.below a)
  have G := fun v (a : Ab w v) => rfall_at pw lw cw W s pr lr cr R st v hlw (iw.below a) (ir.below a)
  have VL : Hid (∀ n r1 r2 r3 r4 v, Sh.W64 n → W4 (r1, r2, r3, r4) → Calls Try.prog 10 #[.int .i64 n, .agg #[.int .i64 r1, .int .i64 r2, .int .i64 r3, .int .i64 r4]] v fun e w' => e = .returned (.bool (vB n (r1, r2, r3, r4))) ∧ Below v.heap.size v w') := fun n r1 r2 r3 r4 v hn h4 => VC n (r1, r2, r3, r4) v hn h4
  by_cases g : good18 lw W s lr R st
  · refine exact18_go cells lw (rnN st R (W, s) lr).1 (rnN st R (W, s) lr).2 0 w hlr hlw hlw hcl ir LV VL (fun v a => ((F v a).1 g).mono fun e w' h => ?_) (fun v a => ((G v a).1 g).mono fun e w' h => ?_)
    · obtain ⟨u, rfl, b, o⟩ := h
      obtain ⟨a0, cap, rfl, i⟩ := own_rn g o
      exact ⟨a0, cap, rfl, b, i⟩
    · obtain ⟨u, rfl, b, o⟩ := h
      obtain ⟨a0, cap, rfl, i⟩ := own_rn g o
      exact ⟨a0, cap, rfl, b, i⟩
  · refine exact18_go cells 0 (fun _ => 0) 0 1 w hlr hlw (by omega) hcl ir LV VL (fun v a => ((F v a).2 g).mono fun e w' h => ?_) (fun v a => ((G v a).2 g).mono fun e w' h => ?_)
    · obtain ⟨rfl, b⟩ := h
      exact ⟨none, 0, rfl, b, Sh.IsI.nil _ _ _⟩
    · obtain ⟨rfl, b⟩ := h
      exact ⟨none, 0, rfl, b, Sh.IsI.nil _ _ _⟩
end Rn
end Go.Proofs.Ythcgbjkbnbeobaa
