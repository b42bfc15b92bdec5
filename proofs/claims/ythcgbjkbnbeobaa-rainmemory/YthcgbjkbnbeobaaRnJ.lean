/-
  What is handed in stays: the walk (layer 18).
-/
import Derived.Test.YthcgbjkbnbeobaaRnL
import Derived.Test.YthcgbjkbnbeobaaRnH
namespace Go.Proofs.Ythcgbjkbnbeobaa
open Go.RowKit Go.Deep
namespace Rn
open Sh
set_option maxRecDepth 100000 in
set_option maxHeartbeats 16000000 in
theorem mem_long {pw : Option Addr} {lw cw : Nat} {s : Int} {pr : Option Addr} {lr cr : Nat} {st : Int} (w : World) (hq : decide ((65536 : Int) < (lw : Int)) = true ∨ (decide ((65536 : Int) < (lw : Int)) = false ∧ decide ((65536 : Int) < (lr : Int)) = true))
    (LV : Hid (∀ v, Ab w v → Calls Try.prog 9 #[] v fun e w' => e = .returned (.bool true) ∧ Below v.heap.size v w')) :
    Calls Try.prog 8 #[.agg #[.slice pw lw cw, .int .i64 s, .slice pr lr cr, .int .i64 st]] w fun e w' => e = .returned (.bool true) ∧ Below w.heap.size w w' := by
  rcases hq with q | ⟨q, q2⟩
  · have A0 : Hid (Ab w (w.alloc (.cells #[.slice pw lw cw, .int .i64 s, .slice pr lr cr, .int .i64 st] 25))) := bl1 _ _
    have R0 : Hid ((w.alloc (.cells #[.slice pw lw cw, .int .i64 s, .slice pr lr cr, .int .i64 st] 25)).heap[w.heap.size]? = some (.cells #[.slice pw lw cw, .int .i64 s, .slice pr lr cr, .int .i64 st] 25)) := heap_alloc_new _ _
    go_enter Try.func8, Try.ntmps8
    go_upto_region 1 with fail
    generalize hW : World.alloc w _ = W0 at *
    obtain ⟨gw, hgw⟩ : ∃ g, w.heap.size = g := ⟨_, rfl⟩
    rw [hgw] at R0 ⊢
    clear hgw hW
    go_wp2_with fail
    refine (LV.out _ A0.out).mono ?_
    rintro e9 v1 ⟨rfl, b1⟩
    have A1 : Hid (Ab w v1) := A0.out.trans b1
    have R1 := hid (Ab.heap b1 R0.out)
    clear b1 A0 R0
    have x0 := cell_of_row _ _ 0 _ _ _ R1.out
    have x2 := cell_of_row _ _ 2 _ _ _ R1.out
    go_wp2
    go_ret
    exact ⟨rfl, A1.out⟩
  · have A0 : Hid (Ab w (w.alloc (.cells #[.slice pw lw cw, .int .i64 s, .slice pr lr cr, .int .i64 st] 25))) := bl1 _ _
    have R0 : Hid ((w.alloc (.cells #[.slice pw lw cw, .int .i64 s, .slice pr lr cr, .int .i64 st] 25)).heap[w.heap.size]? = some (.cells #[.slice pw lw cw, .int .i64 s, .slice pr lr cr, .int .i64 st] 25)) := heap_alloc_new _ _
    go_enter Try.func8, Try.ntmps8
    go_upto_region 1 with fail
    generalize hW : World.alloc w _ = W0 at *
    obtain ⟨gw, hgw⟩ : ∃ g, w.heap.size = g := ⟨_, rfl⟩
    rw [hgw] at R0 ⊢
    clear hgw hW
    go_wp2_with fail
    refine (LV.out _ A0.out).mono ?_
    rintro e9 v1 ⟨rfl, b1⟩
    have A1 : Hid (Ab w v1) := A0.out.trans b1
    have R1 := hid (Ab.heap b1 R0.out)
    clear b1 A0 R0
    have x0 := cell_of_row _ _ 0 _ _ _ R1.out
    have x2 := cell_of_row _ _ 2 _ _ _ R1.out
    go_wp2
    go_ret
    exact ⟨rfl, A1.out⟩
set_option maxRecDepth 100000 in
set_option maxHeartbeats 16000000 in
theorem mem_go {pw : Option Addr} {lw cw : Nat} {s : Int} {pr : Option Addr} {lr cr : Nat} {st : Int} {W : Nat → Int} {R : Nat → Int × Int × Int × Int} (len : Nat) (D : Nat → Int) (y er : Int) (w : World) (hlw : lw ≤ 65536) (hlr : lr ≤ 65536) (hlen : len ≤ 65536) (IW : Hid (IsI w pw lw W)) (IR : Hid (IsRn w pr lr R)) (DW : Hid (∀ c, c < len → Sh.W64 (D c)))
    (LV : Hid (∀ v, Ab w v → Calls Try.prog 9 #[] v fun e w' => e = .returned (.bool true) ∧ Below v.heap.size v w'))
    (FL : Hid (∀ v p cp p2 cp2, IsI v p lw W → IsRn v p2 lr R → Calls Try.prog 12 #[.slice p lw cp, .int .i64 s, .slice p2 lr cp2, .int .i64 st] v fun e w' => ∃ u, e = .returned (.tuple #[u, .int .i64 y, .int .i64 er]) ∧ Below v.heap.size v w' ∧ Sh.Own v.heap.size u ((List.range len).map D) w')) :
    Calls Try.prog 8 #[.agg #[.slice pw lw cw, .int .i64 s, .slice pr lr cr, .int .i64 st]] w fun e w' => e = .returned (.bool true) ∧ Below w.heap.size w w' := by
  have q : decide ((65536 : Int) < (lw : Int)) = false := decide_eq_false (by omega)
  have q2 : decide ((65536 : Int) < (lr : Int)) = false := decide_eq_false (by omega)
  have HLW := hid hlw
  have HLR := hid hlr
  have LN := hid hlen
  obtain ⟨ir0, hr0, hzr, hsr, hbr⟩ := infoR_i
  have A0 : Hid (Ab w (w.alloc (.cells #[.slice pw lw cw, .int .i64 s, .slice pr lr cr, .int .i64 st] 25))) := bl1 _ _
  have R0 : Hid ((w.alloc (.cells #[.slice pw lw cw, .int .i64 s, .slice pr lr cr, .int .i64 st] 25)).heap[w.heap.size]? = some (.cells #[.slice pw lw cw, .int .i64 s, .slice pr lr cr, .int .i64 st] 25)) := heap_alloc_new _ _
  go_enter Try.func8, Try.ntmps8
  go_upto_region 1 with fail
  generalize hW : World.alloc w _ = W0 at *
  obtain ⟨gw, hgw⟩ : ∃ g, w.heap.size = g := ⟨_, rfl⟩
  have GWL : Hid (w.heap.size ≤ gw) := Nat.le_of_eq hgw
  rw [hgw] at R0 ⊢
  clear hgw hW
  go_wp2_with fail
  refine (LV.out _ A0.out).mono ?_
  rintro e9 v1 ⟨rfl, b1⟩
  have A1 : Hid (Ab w v1) := A0.out.trans b1
  have R1 := hid (Ab.heap b1 R0.out)
  have GL : Hid (gw < v1.heap.size) := lt_of_block R1.out
  clear b1 A0 R0
  have x0 := cell_of_row _ _ 0 _ _ _ R1.out
  have x1 := cell_of_row _ _ 1 _ _ _ R1.out
  have x2 := cell_of_row _ _ 2 _ _ _ R1.out
  have x3 := cell_of_row _ _ 3 _ _ _ R1.out
  have MK1 : (Instr.makeSlice 22 (.int .i64 ((lw : Int) + 3)) (.int .i64 ((lw : Int) + 3))).run Try.prog v1 = .ok (.slice (some ⟨v1.heap.size, 0, none⟩) (lw + 3) (lw + 3)) (v1.alloc (Obj.cells (madeCells #[.int .i64 0] (lw + 3)) 2)) := by
    have h := run_make_row' (P := Try.prog) 22 2 (.int .i64 0) 8 Try.underlying22 Sh.info64 rfl .i64 .i64 (lw + 3) (by omega) (by omega) v1
    simpa using h
  have RM := hid (World.rowIs_made v1 (.int .i64 0) (lw + 3) 2)
  have AM : Hid (Ab v1 (v1.alloc (Obj.cells (madeCells #[.int .i64 0] (lw + 3)) 2))) := bl1 _ _
  obtain ⟨bw, hbw⟩ : ∃ b, v1.heap.size = b := ⟨_, rfl⟩
  have LW : Hid (v1.heap.size ≤ bw) := Nat.le_of_eq hbw
  rw [hbw] at RM
  go_upto_region 8 with fail
  try rw [hbw]
  generalize hV : World.alloc v1 _ = V1 at *
  clear hV hbw MK1 x0 x1 x2 x3
  have MK2 : (Instr.makeSlice 23 (.int .i64 ((lr : Int) + 3)) (.int .i64 ((lr : Int) + 3))).run Try.prog V1 = .ok (.slice (some ⟨V1.heap.size, 0, none⟩) (lr + 3) (lr + 3)) (V1.alloc (Obj.cells (madeCells #[.int .i64 0, .int .i64 0, .int .i64 0, .int .i64 0] ((lr + 3) * 4)) 29)) := by
    have h := run_make (P := Try.prog) V1 23 29 ir0 (.agg #[.int .i64 0, .int .i64 0, .int .i64 0, .int .i64 0]) Try.underlying23 hr0 hzr .i64 .i64 ((lr + 3 : Nat) : Int) ((lr + 3 : Nat) : Int) (by omega) (Int.le_refl _) (by rw [hbr]; omega) (by omega)
    rw [hsr] at h
    simp only [Int.toNat_natCast] at h
    have e0 : (Value.agg #[.int .i64 0, .int .i64 0, .int .i64 0, .int .i64 0]).cells = #[.int .i64 0, .int .i64 0, .int .i64 0, .int .i64 0] := rfl
    rw [e0] at h
    simpa using h
  have RN := hid (made_r V1 (lr + 3))
  have AN : Hid (Ab V1 (V1.alloc (Obj.cells (madeCells #[.int .i64 0, .int .i64 0, .int .i64 0, .int .i64 0] ((lr + 3) * 4)) 29))) := bl1 _ _
  have RM2 := hid (Sh.row_ab RM.out AN.out)
  obtain ⟨br, hbf⟩ : ∃ b, V1.heap.size = b := ⟨_, rfl⟩
  have LF : Hid (v1.heap.size ≤ bw ∧ bw < br) := ⟨LW.out, by rw [← hbf]; exact RM.out.lt⟩
  rw [hbf] at RN
  go_upto_region 9 with fail
  try rw [hbf]
  generalize hV : World.alloc V1 _ = V2 at *
  clear hV hbf MK2 RM LW hr0 hzr hsr hbr
  have A2 : Hid (Ab v1 V2) := AM.out.trans AN.out
  obtain ⟨V3, CP1, a3, r3⟩ := copyI18 V2 bw (lw + 3) lw (lw + 3) pw cw W _ RM2.out (by omega) (IW.out.below (A1.out.trans A2.out))
  have A3 : Hid (Ab v1 V3) := Sh.Abo.ab a3 A2.out LF.out.1
  have RW3 := hid r3
  have RF3 : Hid (RAt V3 br (lr + 3) (fun _ => (0, 0, 0, 0))) := Sh.rowIs_abo RN.out a3 (by have := LF.out; omega)
  have x0 := cell_of_row _ _ 0 _ _ _ (A2.out.heap R1.out)
  clear a3 r3 RM2 RN AM AN
  go_upto_region 10 with fail
  clear CP1 x0 A2
  obtain ⟨V4, CP2, a4, r4⟩ := copyR18 V3 br (lr + 3) lr (lr + 3) pr cr R _ RF3.out (by omega) (IR.out.below (A1.out.trans A3.out))
  have A4 : Hid (Ab v1 V4) := Sh.Abo.ab a4 A3.out (by have := LF.out; omega)
  have RF4 := hid r4
  have RW4 := hid (Sh.rowIs_abo RW3.out a4 (by have := LF.out; omega))
  have x2 := cell_of_row _ _ 2 _ _ _ (A3.out.heap R1.out)
  clear a4 r4 RW3 RF3
  go_upto_region 11 with fail
  clear CP2 x2 A3
  go_wp2
  go_loopw [7] (fun iv wr => ∃ c : Nat, c ≤ 3 ∧ iv = .int .i64 (c : Nat) ∧ Ab v1 wr ∧ wr.rowIs bw 2 (lw + 3) (fun i => .int .i64 (if i < lw then W i else if i < lw + c then -7 else 0)) ∧ RAt wr br (lr + 3) (fun i => if i < lr then R i else if i < lr + c then (-7, 0, 0, 0) else (0, 0, 0, 0))) (fun iv _ => 3 - (intOf iv).toNat)
  case atStart =>
    refine ⟨0, by omega, rfl, A4.out, RW4.out.congr (fun i _ => ?_), RF4.out.congr (fun i _ => ?_)⟩
    · by_cases q : i < lw
      · simp [q]
      · simp [q]
    · by_cases q : i < lr
      · simp [q]
      · simp [q]
  case round =>
    obtain ⟨c, hc, rfl, ar, r1, r2⟩ := hrel
    have AR := hid ar
    have S1 := hid r1
    have S2 := hid r2
    clear ar r1 r2 A4 RW4 RF4
    by_cases hcn : c < 3
    · have HC := hid hcn
      have hcI : (c : Int) < 3 := by omega
      have i1 : (lw : Int) + c < (lw : Int) + 3 := by omega
      have i2 : (lr : Int) + c < (lr : Int) + 3 := by omega
      have z1 := S1.out.cell (show lw + c < lw + 3 by omega)
      have z2 := S1.out.frozen (lw + c)
      have NE : Hid (br ≠ bw) := by have := LF.out; show _ ≠ _; omega
      have S3 : Hid (RAt (wr.setCell ⟨bw, lw + c, none⟩ (.int .i64 (-7))) br (lr + 3) (fun i => if i < lr then R i else if i < lr + c then (-7, 0, 0, 0) else (0, 0, 0, 0))) := World.rowIs.setOther S2.out (a := ⟨bw, lw + c, none⟩) NE.out (.int .i64 (-7))
      obtain ⟨y1, hy1⟩ : ∃ y, Value.int .i64 (if lw + c < lw then W (lw + c) else if lw + c < lw + c then -7 else 0) = y := ⟨_, rfl⟩
      rw [hy1] at z1
      obtain ⟨ρ, hρ⟩ : ∃ r : Int × Int × Int × Int, (if lr + c < lr then R (lr + c) else if lr + c < lr + c then (-7, 0, 0, 0) else (0, 0, 0, 0)) = r := ⟨_, rfl⟩
      have u0 := S3.out.c (j := 0) (show lr + c < lr + 3 by omega) (by omega)
      have u1 := S3.out.c (j := 1) (show lr + c < lr + 3 by omega) (by omega)
      have u2 := S3.out.c (j := 2) (show lr + c < lr + 3 by omega) (by omega)
      have u3 := S3.out.c (j := 3) (show lr + c < lr + 3 by omega) (by omega)
      rw [hρ] at u0 u1 u2 u3
      have g0 := S3.out.frz ((lr + c) * 4)
      have g1 := S3.out.frz ((lr + c) * 4 + 1)
      have g2 := S3.out.frz ((lr + c) * 4 + 2)
      have g3 := S3.out.frz ((lr + c) * 4 + 3)
      rw [Nat.add_zero] at u0
      clear hy1 hρ hcn hc
      go_upto_region 15 with fail
      go_wp2
      have P1 := S3.out.put (c := lr + c) (-7, 0, 0, 0)
      have lb : v1.heap.size ≤ br := by have := LF.out; omega
      refine ⟨⟨c + 1, by have := HC.out; omega, by simp, ((((AR.out.set LF.out.1 _).set lb _).set lb _).set lb _).set lb _, (((((S1.out.set (lw + c) _).setOther (Ne.symm NE.out) _).setOther (Ne.symm NE.out) _).setOther (Ne.symm NE.out) _).setOther (Ne.symm NE.out) _).congr (fun i _ => ?_), P1.congr (fun i _ => ?_)⟩, by simp [intOf]; have := HC.out; omega⟩
      · by_cases e : i = lw + c
        · subst e
          simp [show ¬ lw + c < lw by omega, show lw + c < lw + (c + 1) by omega]
        · have q : (i < lw + (c + 1)) ↔ i < lw + c := by omega
          simp [e, q]
      · by_cases e : i = lr + c
        · subst e
          simp [show ¬ lr + c < lr by omega, show lr + c < lr + (c + 1) by omega]
        · have q : (i < lr + (c + 1)) ↔ i < lr + c := by omega
          simp [e, q]
    · obtain rfl : c = 3 := by omega
      go_upto_region 16 with fail
      have JW := hid (rowq18 (o := 0) (n := lw) (x := W) S1.out (by omega) (fun i hi => by simp [hi]) (fun i hi => ((IW.out i hi).1)))
      have JT := hid (rowq18 (o := lw) (n := 3) (x := fun _ => (-7 : Int)) S1.out (by omega) (fun i hi => by simp [show ¬ lw + i < lw by omega, show lw + i < lw + 3 by omega]) (fun i hi => by omega))
      have RQ : Hid (RAt wr br (lr + 3) (fun i => if i < lr then R i else (-7, 0, 0, 0))) := S2.out.congr (fun i hi => by
        by_cases q : i < lr
        · simp [q]
        · simp [q, show i < lr + 3 by omega])
      have JR : Hid (IsRn wr (some ⟨br, 0, none⟩) lr R) := IsRn.congr18 (RAt.rn RQ.out (n := lr) (by omega) (fun k hk => by rw [if_pos hk]; exact (IR.out k hk).1)) (fun k hk => by rw [if_pos hk])
      have LB : Hid (bw < wr.heap.size ∧ br < wr.heap.size) := ⟨S1.out.lt, World.rowIs.lt S2.out⟩
      have AW5 := hid (A1.out.trans AR.out)
      have R5 := hid (Ab.heap AR.out R1.out)
      clear S1 S2
      have m1 : ((lw : Nat) : Int) ≤ ((lw + 3 : Nat) : Int) := by omega
      have m2 : (lw : Int) ≤ (lw : Int) + 3 := by omega
      have m3 : (0 : Int) ≤ (lw : Int) := by omega
      have n1 : ((lr : Nat) : Int) ≤ ((lr + 3 : Nat) : Int) := by omega
      have n2 : (lr : Int) ≤ (lr : Int) + 3 := by omega
      have n3 : (0 : Int) ≤ (lr : Int) := by omega
      have AD0 := Ab.refl wr
      have AD := (Ab.refl wr).drew
      have KS : Hid (∀ w', Ab wr w' → Ab wr w' ∧ w'.cell? ⟨gw, 1, none⟩ = some (.int .i64 s) ∧ w'.cell? ⟨gw, 3, none⟩ = some (.int .i64 st)) := fun w' q => ⟨q, cell_of_row _ _ 1 _ _ _ (q.heap R5.out), cell_of_row _ _ 3 _ _ _ (q.heap R5.out)⟩
      go_region_held3 (fun w' => Ab wr w' ∧ w'.cell? ⟨gw, 1, none⟩ = some (.int .i64 s) ∧ w'.cell? ⟨gw, 3, none⟩ = some (.int .i64 st)) ((refine KS.out _ ?_; (with_reducible (repeat (first | assumption | apply Ab.drew | apply Ab.alloc))); done)) (first
        | (go_at_call 12; refine (FL.out _ (some ⟨bw, 0, none⟩) (lw + 3) (some ⟨br, 0, none⟩) (lr + 3) (JW.out.below AD) (JR.out.below AD)).mono ?_; rintro e9 ra ⟨la, rfl, b3, o3⟩; have A3 := Ab.call AD b3; have Oa := hid o3; clear b3 o3))
      have Aa : Hid (Ab wr ra) := A3
      clear A3 AD AD0 KS
      go_upto_region 17 with fail
      have R6 := hid (Ab.heap Aa.out R5.out)
      have AD0 := Ab.refl ra
      have AD := (Ab.refl ra).drew
      have KS : Hid (∀ w', Ab ra w' → Ab ra w' ∧ w'.cell? ⟨gw, 1, none⟩ = some (.int .i64 s) ∧ w'.cell? ⟨gw, 3, none⟩ = some (.int .i64 st)) := fun w' q => ⟨q, cell_of_row _ _ 1 _ _ _ (q.heap R6.out), cell_of_row _ _ 3 _ _ _ (q.heap R6.out)⟩
      go_region_held3 (fun w' => Ab ra w' ∧ w'.cell? ⟨gw, 1, none⟩ = some (.int .i64 s) ∧ w'.cell? ⟨gw, 3, none⟩ = some (.int .i64 st)) ((refine KS.out _ ?_; (with_reducible (repeat (first | assumption | apply Ab.drew | apply Ab.alloc))); done)) (first
        | (go_at_call 12; refine (FL.out _ (some ⟨bw, 0, none⟩) (lw + 3) (some ⟨br, 0, none⟩) (lr + 3) (JW.out.below (Aa.out.trans AD)) (JR.out.below (Aa.out.trans AD))).mono ?_; rintro e9 rb ⟨lb, rfl, b3, o3⟩; have A3 := Ab.call AD b3; have Ob := hid o3; clear b3 o3))
      have Bb : Hid (Ab ra rb) := A3
      have Abb : Hid (Ab wr rb) := Aa.out.trans A3
      clear A3 AD AD0 KS
      obtain ⟨pa, ca, hla, ia⟩ := own_w18 Oa.out DW.out
      obtain ⟨pb, cb, hlb, ib⟩ := own_w18 Ob.out DW.out
      have La : Hid (la = .slice pa len ca) := hla
      subst hlb
      have Ia := hid (ia.below Bb.out)
      have Ib := hid ib
      have Oa2 := hid (Sh.Own.to Oa.out Bb.out)
      have La2 : Hid (∀ k, la.ownBlock = some k → wr.heap.size ≤ k ∧ k < ra.heap.size) := fun k hk => World.ownsRow.lt Oa.out k hk
      have Lb2 : Hid (∀ b0 o0, pb = some ⟨b0, o0, none⟩ → 0 < len → ra.heap.size ≤ b0) := fun b0 o0 e h0 => by
        obtain ⟨g, cap, X, e1, e2, -⟩ := own_two18 Ob.out h0
        injection e1 with e3
        rw [e] at e3
        injection e3 with e4
        injection e4 with e5
        rw [e5]
        exact e2
      have I3 : Hid (∀ v : World, IsI (v.alloc (.cells #[.int .i64 (-7), .int .i64 (-7), .int .i64 (-7)] 2)) (some ⟨v.heap.size, 0, none⟩) 3 (fun _ => -7)) := fun v => three_in18 v (-7)
      have q0 : (er != er) = false := by simp
      have q9 : (y != y) = false := by simp
      clear ia ib Oa Ob
      rw [hla]
      clear hla
      go_upto_region 18 with fail
      have R7 := hid (Ab.heap Bb.out R6.out)
      have AD0 := Ab.refl rb
      have AD := (Ab.refl rb).drew
      have KS : Hid (∀ w', Ab rb w' → Ab rb w' ∧ w'.cell? ⟨gw, 0, none⟩ = some (.slice pw lw cw)) := fun w' q => ⟨q, cell_of_row _ _ 0 _ _ _ (q.heap R7.out)⟩
      go_region_held3 (fun w' => Ab rb w' ∧ w'.cell? ⟨gw, 0, none⟩ = some (.slice pw lw cw)) ((refine KS.out _ ?_; (with_reducible (repeat (first | assumption | apply Ab.drew | apply Ab.alloc))); done)) (first
        | (go_at_call_of 14 (Value.slice pa len ca); refine (same18_at pa pb len ca cb D _ (by have := LN.out; omega) (Ia.out.below (show Ab rb _ by with_reducible (repeat (first | assumption | apply Ab.drew | apply Ab.alloc)))) (Ib.out.below (show Ab rb _ by with_reducible (repeat (first | assumption | apply Ab.drew | apply Ab.alloc))))).mono ?_; rintro e9 s0 ⟨rfl, b3⟩; have S0 : Ab rb s0 := Ab.call (show Ab rb _ by with_reducible (repeat (first | assumption | apply Ab.drew | apply Ab.alloc))) b3; clear b3)
        | (go_at_call_of 14 (Value.slice pw lw cw); refine (same18_at (some ⟨bw, 0, none⟩) pw lw (lw + 3) cw W _ (by have := HLW.out; omega) (JW.out.below (Abb.out.trans (show Ab rb _ by with_reducible (repeat (first | assumption | apply Ab.drew | apply Ab.alloc))))) (IW.out.below (AW5.out.trans (Abb.out.trans (show Ab rb _ by with_reducible (repeat (first | assumption | apply Ab.drew | apply Ab.alloc))))))).mono ?_; rintro e9 s1 ⟨rfl, b3⟩; have S1 : Ab rb s1 := Ab.call (show Ab rb _ by with_reducible (repeat (first | assumption | apply Ab.drew | apply Ab.alloc))) b3; clear b3)
        | (go_at_call 14; refine (same18_at (some ⟨bw, lw, none⟩) _ 3 3 3 (fun _ => -7) _ (by omega) (JT.out.below (Abb.out.trans (show Ab rb _ by with_reducible (repeat (first | assumption | apply Ab.drew | apply Ab.alloc))))) (I3.out _)).mono ?_; rintro e9 V ⟨rfl, b3⟩; have S2 : Ab rb V := Ab.call (show Ab rb _ by with_reducible (repeat (first | assumption | apply Ab.drew | apply Ab.alloc))) b3; clear b3))
      have SV : Hid (Ab rb V) := S2
      have AV : Hid (Ab wr V) := Abb.out.trans SV.out
      have RV := hid (RQ.out.to AV.out)
      have R8 := hid (Ab.heap SV.out R7.out)
      have AWV : Hid (Ab w V) := AW5.out.trans AV.out
      clear S0 S1 S2 AD AD0 KS
      go_wp2
      go_loopw [14] (fun iv wq => ∃ c : Nat, c ≤ lr + 3 ∧ iv = .int .i64 (c : Nat) ∧ Ab V wq) (fun iv _ => lr + 3 - (intOf iv).toNat)
      case atStart => exact ⟨0, by omega, rfl, Ab.refl V⟩
      case round =>
        obtain ⟨c, hc, rfl, ar⟩ := hrel
        rename World => wq
        have AQ := hid ar
        clear ar
        have hcB : (c : Int) ≤ 65539 := by have := HLR.out; omega
        have l3 : (lr : Int) ≤ 65536 := by have := HLR.out; omega
        by_cases hcn : c < lr + 3
        · have HC := hid hcn
          have hcI : (c : Int) < (lr : Int) + 3 := by omega
          have hcJ : (c : Int) < ((lr + 3 : Nat) : Int) := by omega
          have c0 : (0 : Int) ≤ (c : Int) := by omega
          by_cases hm : c < lr
          · have d1 : decide ((c : Int) < (lr : Int)) = true := decide_eq_true (by omega)
            have d2 : decide ((lr : Int) ≤ (c : Int)) = false := decide_eq_false (by omega)
            have d3 : (c : Int) < (lr : Int) := by omega
            obtain ⟨ab, ao, rfl⟩ := IR.out.some0 (show 0 < lr by omega)
            obtain ⟨r1, r2, r3, r4, hr⟩ : ∃ a b c' d, R c = (a, b, c', d) := ⟨_, _, _, _, rfl⟩
            have BC : Hid (∀ v, Ab V v → v.cell? ⟨br, c * 4, none⟩ = some (.int .i64 r1) ∧ v.cell? ⟨br, c * 4 + 1, none⟩ = some (.int .i64 r2) ∧ v.cell? ⟨br, c * 4 + 2, none⟩ = some (.int .i64 r3) ∧ v.cell? ⟨br, c * 4 + 3, none⟩ = some (.int .i64 r4)) := fun v a => by
              have h := RV.out.to a
              have k0 := h.c (j := 0) (show c < lr + 3 by omega) (by omega)
              have k1 := h.c (j := 1) (show c < lr + 3 by omega) (by omega)
              have k2 := h.c (j := 2) (show c < lr + 3 by omega) (by omega)
              have k3 := h.c (j := 3) (show c < lr + 3 by omega) (by omega)
              rw [if_pos hm, hr] at k0 k1 k2 k3
              exact ⟨k0, k1, k2, k3⟩
            have RC : Hid (∀ v, Ab V v → v.cell? ⟨ab, ao + c * 4, none⟩ = some (.int .i64 r1) ∧ v.cell? ⟨ab, ao + c * 4 + 1, none⟩ = some (.int .i64 r2) ∧ v.cell? ⟨ab, ao + c * 4 + 2, none⟩ = some (.int .i64 r3) ∧ v.cell? ⟨ab, ao + c * 4 + 3, none⟩ = some (.int .i64 r4)) := fun v a => by
              have h := ((IR.out.below (AWV.out.trans a)).at0 hm).2.2
              rw [hr] at h
              exact h
            have hm2 : ¬ lr ≤ c := by omega
            clear hr hcn hc
            go_upto_region 23 with fail
            obtain ⟨UU, E, hF1, hF2⟩ := cls wq
            have HU := hid hF2
            have HU1 := hid hF1
            have e1 : ∀ u, (E u).cell? ⟨gw, 2, none⟩ = some (.slice (some ⟨ab, ao, none⟩) lr cr) := fun u => cell_of_row _ _ 2 _ _ _ ((AQ.out.trans (hF1 u)).heap R8.out)
            have e2 : ∀ u, (E u).cell? ⟨br, c * 4, none⟩ = some (.int .i64 r1) := fun u => (BC.out _ (AQ.out.trans (hF1 u))).1
            have e3 : ∀ u, (E u).cell? ⟨br, c * 4 + 1, none⟩ = some (.int .i64 r2) := fun u => (BC.out _ (AQ.out.trans (hF1 u))).2.1
            have e4 : ∀ u, (E u).cell? ⟨br, c * 4 + 2, none⟩ = some (.int .i64 r3) := fun u => (BC.out _ (AQ.out.trans (hF1 u))).2.2.1
            have e5 : ∀ u, (E u).cell? ⟨br, c * 4 + 3, none⟩ = some (.int .i64 r4) := fun u => (BC.out _ (AQ.out.trans (hF1 u))).2.2.2
            have e6 : ∀ u, (E u).cell? ⟨ab, ao + c * 4, none⟩ = some (.int .i64 r1) := fun u => (RC.out _ (AQ.out.trans (hF1 u))).1
            have e7 : ∀ u, (E u).cell? ⟨ab, ao + c * 4 + 1, none⟩ = some (.int .i64 r2) := fun u => (RC.out _ (AQ.out.trans (hF1 u))).2.1
            have e8 : ∀ u, (E u).cell? ⟨ab, ao + c * 4 + 2, none⟩ = some (.int .i64 r3) := fun u => (RC.out _ (AQ.out.trans (hF1 u))).2.2.1
            have e9 : ∀ u, (E u).cell? ⟨ab, ao + c * 4 + 3, none⟩ = some (.int .i64 r4) := fun u => (RC.out _ (AQ.out.trans (hF1 u))).2.2.2
            have DD0 := HU.out _ (Ab.refl wq).drew
            clear hF1 hF2
            refine region_cls E (by kernel_rfl) (by kernel_rfl) DD0 ?_
            repeat (go_big_quiet_step (with_reducible rfl))
            refine wpQuiet_nil ?_
            intro v6 hwz
            obtain ⟨u0, hu⟩ := hwz
            have A6 : Hid (Ab wq v6) := by rw [hu]; exact HU1.out u0
            clear hu u0
            clear HU HU1 DD0 e1 e2 e3 e4 e5 e6 e7 e8 e9
            clear E UU
            go_wp2
            exact ⟨⟨c + 1, by have := HC.out; omega, by simp, AQ.out.trans A6.out⟩, by have := HC.out; simp [intOf]; omega⟩
          · have d1 : decide ((c : Int) < (lr : Int)) = false := decide_eq_false (by omega)
            have d2 : decide ((lr : Int) ≤ (c : Int)) = true := decide_eq_true (by omega)
            have BC : Hid (∀ v, Ab V v → v.cell? ⟨br, c * 4, none⟩ = some (.int .i64 (-7)) ∧ v.cell? ⟨br, c * 4 + 1, none⟩ = some (.int .i64 0) ∧ v.cell? ⟨br, c * 4 + 2, none⟩ = some (.int .i64 0) ∧ v.cell? ⟨br, c * 4 + 3, none⟩ = some (.int .i64 0)) := fun v a => by
              have h := RV.out.to a
              have k0 := h.c (j := 0) (show c < lr + 3 by omega) (by omega)
              have k1 := h.c (j := 1) (show c < lr + 3 by omega) (by omega)
              have k2 := h.c (j := 2) (show c < lr + 3 by omega) (by omega)
              have k3 := h.c (j := 3) (show c < lr + 3 by omega) (by omega)
              rw [if_neg hm] at k0 k1 k2 k3
              exact ⟨k0, k1, k2, k3⟩
            have hm2 : lr ≤ c := by omega
            clear hcn hc
            go_upto_region 23 with fail
            obtain ⟨UU, E, hF1, hF2⟩ := cls wq
            have HU := hid hF2
            have HU1 := hid hF1
            have e2 : ∀ u, (E u).cell? ⟨br, c * 4, none⟩ = some (.int .i64 (-7)) := fun u => (BC.out _ (AQ.out.trans (hF1 u))).1
            have e3 : ∀ u, (E u).cell? ⟨br, c * 4 + 1, none⟩ = some (.int .i64 0) := fun u => (BC.out _ (AQ.out.trans (hF1 u))).2.1
            have e4 : ∀ u, (E u).cell? ⟨br, c * 4 + 2, none⟩ = some (.int .i64 0) := fun u => (BC.out _ (AQ.out.trans (hF1 u))).2.2.1
            have e5 : ∀ u, (E u).cell? ⟨br, c * 4 + 3, none⟩ = some (.int .i64 0) := fun u => (BC.out _ (AQ.out.trans (hF1 u))).2.2.2
            have DD0 := HU.out _ (Ab.refl wq).drew
            clear hF1 hF2
            refine region_cls E (by kernel_rfl) (by kernel_rfl) DD0 ?_
            repeat (go_big_quiet_step (with_reducible rfl))
            refine wpQuiet_nil ?_
            intro v6 hwz
            obtain ⟨u0, hu⟩ := hwz
            have A6 : Hid (Ab wq v6) := by rw [hu]; exact HU1.out u0
            clear hu u0
            clear HU HU1 DD0 e2 e3 e4 e5
            clear E UU
            go_wp2
            exact ⟨⟨c + 1, by have := HC.out; omega, by simp, AQ.out.trans A6.out⟩, by have := HC.out; simp [intOf]; omega⟩
        · have e6 : c = lr + 3 := by omega
          subst e6
          have AQV : Hid (Ab wr wq) := AV.out.trans AQ.out
          have OV := hid (Sh.Own.to Oa2.out (SV.out.trans AQ.out))
          have IbV := hid (Ib.out.below (SV.out.trans AQ.out))
          have JWV := hid (JW.out.below AQV.out)
          have SZ : Hid (wr.heap.size ≤ ra.heap.size ∧ ra.heap.size ≤ wq.heap.size ∧ v1.heap.size ≤ wr.heap.size ∧ w.heap.size ≤ v1.heap.size) := ⟨Below.size Aa.out, by have h1 := Below.size Bb.out; have h2 := Below.size SV.out; have h3 := Below.size AQ.out; omega, Below.size AR.out, Below.size A1.out⟩
          obtain ⟨ga, hga⟩ : ∃ ga, (∀ k, la.ownBlock = some k → k = ga) ∧ wr.heap.size ≤ ga ∧ (ga < ra.heap.size ∨ wq.heap.size ≤ ga) := by
            cases h : la.ownBlock with
            | none => exact ⟨wq.heap.size, fun k hk => absurd hk (by simp), by have := SZ.out; omega, .inr (Nat.le_refl _)⟩
            | some g => exact ⟨g, fun k hk => (Option.some.inj hk).symm, (La2.out g h).1, .inl (La2.out g h).2⟩
          have GA := hid hga
          have NE : Hid (bw ≠ ga ∧ v1.heap.size ≤ ga ∧ w.heap.size ≤ ga) := by have h1 := LB.out; have h2 := GA.out.2.1; have h3 := SZ.out; exact ⟨by omega, by omega, by omega⟩
          have AV1 : Hid (Ab v1 wq) := AR.out.trans AQV.out
          clear hga Ia Ib Oa2 JT La2 JR RQ RV R6 R7 R8 I3
          rcases Nat.eq_zero_or_pos len with h0 | h0
          · subst h0
            have KBF : Hid (∀ q, Sh.Abo wq ga q → IsI q pb 0 D) := fun q a => Sh.IsI.nil _ _ _
            go_wp2
            go_loopw [15] (fun iv wz => iv = .int .i64 0 ∧ Sh.Abo wq ga wz) (fun _ _ => 0)
            case atStart => exact ⟨rfl, Sh.Abo.refl wq ga⟩
            case round =>
              obtain ⟨rfl, aq⟩ := hrel
              rename World => wz
              have AZ := hid aq
              clear aq
              have AY : Hid (Ab w wz) := Sh.Abo.ab AZ.out (AW5.out.trans AQV.out) NE.out.2.2
              have AY1 : Hid (Ab v1 wz) := Sh.Abo.ab AZ.out AV1.out NE.out.2.1
              have R9 := hid (Ab.heap AY1.out R1.out)
              have MM := hid (FL.out wz pw cw pr cr (IW.out.below AY.out) (IR.out.below AY.out))
              have KB := hid (KBF.out wz AZ.out)
              have KW := hid (Sh.isI_abo JWV.out AZ.out NE.out.1)
              have x0 := cell_of_row _ _ 0 _ _ _ R9.out
              have x1 := cell_of_row _ _ 1 _ _ _ R9.out
              have x2 := cell_of_row _ _ 2 _ _ _ R9.out
              have x3 := cell_of_row _ _ 3 _ _ _ R9.out
              go_wp2_with fail
              refine MM.out.mono ?_
              rintro e9 v7 ⟨lh, rfl, b7, o7⟩
              have A7 : Hid (Ab wz v7) := b7
              obtain ⟨ph, ch, hlh, ih⟩ := own_w18 o7 DW.out
              subst hlh
              have IH := hid ih
              have Ra := hid (Ab.heap A7.out R9.out)
              have SA : Hid (∀ v, Ab v7 v → Calls Try.prog 14 #[.slice ph 0 ch, .slice pb 0 cb] v fun e w' => e = .returned (.bool true) ∧ Below v.heap.size v w') := fun v a => same18_at ph pb 0 ch cb D v (by have := LN.out; omega) (IH.out.below a) (KB.out.below (A7.out.trans a))
              have SB : Hid (∀ v, Ab v7 v → Calls Try.prog 14 #[.slice (some ⟨bw, 0, none⟩) lw (lw + 3), .slice pw lw cw] v fun e w' => e = .returned (.bool true) ∧ Below v.heap.size v w') := fun v a => same18_at (some ⟨bw, 0, none⟩) pw lw (lw + 3) cw W v (by have := HLW.out; omega) (KW.out.below (A7.out.trans a)) (IW.out.below (AY.out.trans (A7.out.trans a)))
              have AF : Hid (Ab w v7) := AY.out.trans A7.out
              clear b7 o7 ih MM x0 x1 x2 x3
              go_upto_region 30 with fail
              obtain ⟨UU, E, hF1, hF2⟩ := cls v7
              have HU := hid hF2
              have HU1 := hid hF1
              have e1 : ∀ u, (E u).cell? ⟨gw, 0, none⟩ = some (.slice pw lw cw) := fun u => cell_of_row _ _ 0 _ _ _ ((hF1 u).heap Ra.out)
              have DD0 := HU.out _ (Ab.refl v7).drew
              clear hF1 hF2
              refine region_cls E (by kernel_rfl) (by kernel_rfl) DD0 ?_
              repeat (go_big_quiet_step (first | (go_at_call_of 14 (Value.slice ph 0 ch); exact calls_cls HU HU1 (SA.out _ (HU1.out _))) | (go_at_call_of 14 (Value.slice pw lw cw); exact calls_cls HU HU1 (SB.out _ (HU1.out _))) | (with_reducible rfl)))
              refine wpQuiet_nil ?_
              intro v8 hwz
              obtain ⟨u0, hu⟩ := hwz
              have A8 : Hid (Ab v7 v8) := by rw [hu]; exact HU1.out u0
              clear hu u0
              clear HU HU1 DD0 e1
              clear E UU
              go_wp2
              go_ret
              exact ⟨rfl, AF.out.trans A8.out⟩
          · obtain ⟨g0, k0, X, hl0, lg0, nc0, mc0, rw0, hf0⟩ := own_two18 OV.out h0
            have hh := La.out
            rw [hl0] at hh
            injection hh with hh1 hh2 hh3
            have e0 : g0 = ga := GA.out.1 g0 (by rw [hl0]; rfl)
            subst e0
            rw [← hh1, ← hh3]
            have KX : Hid (len ≤ k0) := nc0
            have RX := hid rw0
            have KBF : Hid (∀ q, Sh.Abo wq g0 q → IsI q pb len D) := fun q a => by
              obtain ⟨b1, o1, e1⟩ := IbV.out.some0 h0
              have lb := Lb2.out b1 o1 e1 h0
              have sb := RX.out.lt
              subst e1
              refine Sh.isI_abo IbV.out a ?_
              rcases GA.out.2.2 with g | g
              · omega
              · omega
            clear hl0 lg0 nc0 mc0 rw0 hf0 hh1 hh2 hh3 OV La
            clear h0
            go_wp2
            go_loopw [15] (fun iv wz => ∃ c : Nat, c ≤ len ∧ iv = .int .i64 (c : Nat) ∧ Sh.Abo wq g0 wz ∧ ∃ Y, wz.rowIs g0 2 k0 Y) (fun iv _ => len - (intOf iv).toNat)
            case atStart => exact ⟨0, by omega, rfl, Sh.Abo.refl wq g0, X, RX.out⟩
            case round =>
              obtain ⟨c, hc, rfl, aq, Y, rq⟩ := hrel
              rename World => wz
              have AZ := hid aq
              have RZ := hid rq
              clear aq rq RX
              by_cases hcn : c < len
              · have HC := hid hcn
                have hcI : (c : Int) < len := by omega
                have hcB2 : (c : Int) ≤ 65536 := by have := LN.out; omega
                have z1 := RZ.out.cell (show c < k0 by have := KX.out; omega)
                have z2 := RZ.out.frozen c
                clear hcn hc
                go_wp2
                refine ⟨⟨c + 1, by have := HC.out; omega, by simp, ?_, _, RZ.out.set c _⟩, by have := HC.out; simp [intOf]; omega⟩
                obtain ⟨y1, y2, y3, y4, y5⟩ := AZ.out
                exact ⟨y1, y2, y3, by simpa [World.setCell] using y4, fun k hk hne => (Below.heap_setCell _ _ _ _ hne).trans (y5 k hk hne)⟩
              · have e7 : len = c := by omega
                subst e7
                have AY : Hid (Ab w wz) := Sh.Abo.ab AZ.out (AW5.out.trans AQV.out) NE.out.2.2
                have AY1 : Hid (Ab v1 wz) := Sh.Abo.ab AZ.out AV1.out NE.out.2.1
                have R9 := hid (Ab.heap AY1.out R1.out)
                have MM := hid (FL.out wz pw cw pr cr (IW.out.below AY.out) (IR.out.below AY.out))
                have KB := hid (KBF.out wz AZ.out)
                have KW := hid (Sh.isI_abo JWV.out AZ.out NE.out.1)
                have x0 := cell_of_row _ _ 0 _ _ _ R9.out
                have x1 := cell_of_row _ _ 1 _ _ _ R9.out
                have x2 := cell_of_row _ _ 2 _ _ _ R9.out
                have x3 := cell_of_row _ _ 3 _ _ _ R9.out
                go_wp2_with fail
                refine MM.out.mono ?_
                rintro e9 v7 ⟨lh, rfl, b7, o7⟩
                have A7 : Hid (Ab wz v7) := b7
                obtain ⟨ph, ch, hlh, ih⟩ := own_w18 o7 DW.out
                subst hlh
                have IH := hid ih
                have Ra := hid (Ab.heap A7.out R9.out)
                have SA : Hid (∀ v, Ab v7 v → Calls Try.prog 14 #[.slice ph len ch, .slice pb len cb] v fun e w' => e = .returned (.bool true) ∧ Below v.heap.size v w') := fun v a => same18_at ph pb len ch cb D v (by have := LN.out; omega) (IH.out.below a) (KB.out.below (A7.out.trans a))
                have SB : Hid (∀ v, Ab v7 v → Calls Try.prog 14 #[.slice (some ⟨bw, 0, none⟩) lw (lw + 3), .slice pw lw cw] v fun e w' => e = .returned (.bool true) ∧ Below v.heap.size v w') := fun v a => same18_at (some ⟨bw, 0, none⟩) pw lw (lw + 3) cw W v (by have := HLW.out; omega) (KW.out.below (A7.out.trans a)) (IW.out.below (AY.out.trans (A7.out.trans a)))
                have AF : Hid (Ab w v7) := AY.out.trans A7.out
                clear b7 o7 ih MM x0 x1 x2 x3
                go_upto_region 30 with fail
                obtain ⟨UU, E, hF1, hF2⟩ := cls v7
                have HU := hid hF2
                have HU1 := hid hF1
                have e1 : ∀ u, (E u).cell? ⟨gw, 0, none⟩ = some (.slice pw lw cw) := fun u => cell_of_row _ _ 0 _ _ _ ((hF1 u).heap Ra.out)
                have DD0 := HU.out _ (Ab.refl v7).drew
                clear hF1 hF2
                refine region_cls E (by kernel_rfl) (by kernel_rfl) DD0 ?_
                repeat (go_big_quiet_step (first | (go_at_call_of 14 (Value.slice ph len ch); exact calls_cls HU HU1 (SA.out _ (HU1.out _))) | (go_at_call_of 14 (Value.slice pw lw cw); exact calls_cls HU HU1 (SB.out _ (HU1.out _))) | (with_reducible rfl)))
                refine wpQuiet_nil ?_
                intro v8 hwz
                obtain ⟨u0, hu⟩ := hwz
                have A8 : Hid (Ab v7 v8) := by rw [hu]; exact HU1.out u0
                clear hu u0
                clear HU HU1 DD0 e1
                clear E UU
                go_wp2
                go_ret
                exact ⟨rfl, AF.out.trans A8.out⟩
set_option maxRecDepth 100000 in
set_option maxHeartbeats 4000000 in
theorem memory18_at (VC : ValidC) (FC : FallC) {pw : Option Addr} {lw cw : Nat} {s : Int} {pr : Option Addr} {lr cr : Nat} {st : Int} {W : Nat → Int} {R : Nat → Int × Int × Int × Int} (w : World) (hs : Sh.W64 s) (ht : Sh.W64 st) (hlw : lw ≤ 17592186044416) (hlr : lr ≤ 17592186044416) (iw : IsI w pw lw W) (ir : IsRn w pr lr R) :
    Calls Try.prog 8 #[.agg #[.slice pw lw cw, .int .i64 s, .slice pr lr cr, .int .i64 st]] w fun e w' => e = .returned (.bool true) ∧ Below w.heap.size w w' := by
  have LV : Hid (∀ v, Ab w v → Calls Try.prog 9 #[] v fun e w' => e = .returned (.bool true) ∧ Below v.heap.size v w') := fun v _ => awake18_at VC FC v
  by_cases l1 : lw ≤ 65536
  · by_cases l2 : lr ≤ 65536
    · have F := fun v p cp p2 cp2 (i : IsI v p lw W) (j : IsRn v p2 lr R) => FC p lw cp W s p2 lr cp2 R st v hs ht hlw hlr i j
      by_cases g : good18 lw W s lr R st
      · have k := good18_ok g
        refine mem_go lw (rnN st R (W, s) lr).1 (rnN st R (W, s) lr).2 0 w l1 l2 l1 iw ir (fun c hc => by have := k.1 c hc; unfold Sh.W64; omega) LV (fun v p cp p2 cp2 i j => (F v p cp p2 cp2 i j).1 g)
      · refine mem_go 0 (fun _ => 0) 0 1 w l1 l2 (by omega) iw ir (fun c hc => absurd hc (Nat.not_lt_zero c)) LV (fun v p cp p2 cp2 i j => ((F v p cp p2 cp2 i j).2 g).mono fun e w' h => ?_)
        obtain ⟨rfl, b⟩ := h
        exact ⟨_, rfl, b, Sh.Own.new w' v.heap.size⟩
    · exact mem_long w (.inr ⟨decide_eq_false (by omega), decide_eq_true (by omega)⟩) LV
  · exact mem_long w (.inl (decide_eq_true (by omega))) LV
end Rn
end Go.Proofs.Ythcgbjkbnbeobaa
