/-
  Some of the texts of this proof, one behind the other.
-/
import Derived.Deep.QuietTactic
import Derived.Test.YtbibhgikmnpbfaaGreatDoorRb12
namespace Go.Proofs.YtbibhgikmnpbfaaGreatDoor
open Go.RowKit Tf Cu Go.Deep
attribute [local go_sem] run_bits run_from raw_feq raw_fne raw_flt raw_fgt run_neg run_store_float
namespace Rv
set_option maxRecDepth 100000 in
set_option maxHeartbeats 64000000 in
theorem lake19_at {gb : Nat} (w : World) (g : GridOf 1 gb w) :
    Calls Tryz.prog 17 #[.pointer (some ⟨gb, 0, none⟩)] w fun e w' => ∃ b1 b2 b3 b4, e = .returned (.agg #[.slice (some ⟨b1, 0, none⟩) 6 6, .slice (some ⟨b2, 0, none⟩) 6 6, .slice (some ⟨b3, 0, none⟩) 6 6, .slice (some ⟨b4, 0, none⟩) 12 12, .int .i64 0, .int .i64 0]) ∧ Below w.heap.size w w' ∧ w'.rowIs b1 47 6 (fun _ => .float .f64 0) ∧ w'.rowIs b2 2 6 (fun i => .int .i64 (lkW i)) ∧ w'.rowIs b3 2 6 (fun _ => .int .i64 0) ∧ w'.rowIs b4 47 12 (fun _ => .float .f64 0) ∧ ((w.heap.size ≤ b1 ∧ w.heap.size ≤ b2 ∧ w.heap.size ≤ b3 ∧ w.heap.size ≤ b4) ∧ b1 ≠ b2 ∧ b1 ≠ b4 ∧ b2 ≠ b4 ∧ b3 ≠ b4 ∧ b3 ≠ b2) := by
  have CC : Hid (∀ v, Ab w v → Calls Tryz.prog 14 #[.pointer (some ⟨gb, 0, none⟩)] v fun e w' => e = .returned (.int .i64 6) ∧ w' = v) := fun v hv => gCells_at (g.to hv)
  have CE : Hid (∀ v, Ab w v → Calls Tryz.prog 51 #[.pointer (some ⟨gb, 0, none⟩)] v fun e w' => e = .returned (.int .i64 12) ∧ w' = v) := fun v hv => gEdges_at (g.to hv)
  have M1 : ∀ v : World, (Instr.makeSlice 22 (.int .i64 6) (.int .i64 6)).run Tryz.prog v = .ok (.slice (some ⟨v.heap.size, 0, none⟩) 6 6) (v.alloc (Obj.cells (madeCells #[.float .f64 0] 6) 47)) := fun v => by
    exact run_make_row' (P := Tryz.prog) 22 47 (.float .f64 0) 8 Tryz.underlying22 infoF64 rfl .i64 .i64 6 (by omega) (by omega) v
  have M2 : ∀ v : World, (Instr.makeSlice 23 (.int .i64 6) (.int .i64 6)).run Tryz.prog v = .ok (.slice (some ⟨v.heap.size, 0, none⟩) 6 6) (v.alloc (Obj.cells (madeCells #[.int .i64 0] 6) 2)) := fun v => by
    exact run_make_row' (P := Tryz.prog) 23 2 (.int .i64 0) 8 Tryz.underlying23 info64 rfl .i64 .i64 6 (by omega) (by omega) v
  have M3 : ∀ v : World, (Instr.makeSlice 22 (.int .i64 12) (.int .i64 12)).run Tryz.prog v = .ok (.slice (some ⟨v.heap.size, 0, none⟩) 12 12) (v.alloc (Obj.cells (madeCells #[.float .f64 0] 12) 47)) := fun v => by
    exact run_make_row' (P := Tryz.prog) 22 47 (.float .f64 0) 8 Tryz.underlying22 infoF64 rfl .i64 .i64 12 (by omega) (by omega) v
  have AL : ∀ v : World, (Instr.alloc 25 true (.tuple #[])).run Tryz.prog v = .ok (.pointer (some ⟨v.heap.size, 0, none⟩)) (v.alloc (.cells #[.slice none 0 0, .slice none 0 0, .slice none 0 0, .slice none 0 0, .int .i64 0, .int .i64 0] 25)) := fun v => by
    simp [go_sem]
  have A0 : Hid (Ab w (w.alloc (.cells #[.slice none 0 0, .slice none 0 0, .slice none 0 0, .slice none 0 0, .int .i64 0, .int .i64 0] 25))) := bl1 _ _
  go_enter Tryz.func17, Tryz.ntmps17
  go_wp2_with fail
  refine (CC.out _ A0.out).mono ?_
  rintro e9 vq ⟨rfl, hvq⟩
  have hvq2 := hvq.symm
  subst hvq2
  go_wp2_with fail
  refine (CE.out _ A0.out).mono ?_
  rintro e9 vq ⟨rfl, hvq⟩
  have hvq2 := hvq.symm
  subst hvq2
  go_upto_region 4 with fail
  generalize hW : World.alloc w _ = W at *
  go_cut [4] from 22 to 31 (fun s4 wx => ∃ g4 b1 b2 b3 b4, s4 = .pointer (some ⟨g4, 0, none⟩) ∧ Ab W wx ∧ wx.heap[g4]? = some (.cells #[.slice (some ⟨b1, 0, none⟩) 6 6, .slice (some ⟨b2, 0, none⟩) 6 6, .slice (some ⟨b3, 0, none⟩) 6 6, .slice (some ⟨b4, 0, none⟩) 12 12, .int .i64 0, .int .i64 0] 25) ∧ wx.heap[b1]? = some (Obj.cells (madeCells #[.float .f64 0] 6) 47) ∧ wx.heap[b2]? = some (Obj.cells (madeCells #[.int .i64 0] 6) 2) ∧ wx.heap[b3]? = some (Obj.cells (madeCells #[.int .i64 0] 6) 2) ∧ wx.heap[b4]? = some (Obj.cells (madeCells #[.float .f64 0] 12) 47) ∧ W.heap.size ≤ g4 ∧ W.heap.size ≤ b1 ∧ W.heap.size ≤ b2 ∧ W.heap.size ≤ b3 ∧ W.heap.size ≤ b4 ∧ g4 ≠ b1 ∧ g4 ≠ b2 ∧ g4 ≠ b3 ∧ g4 ≠ b4 ∧ b1 ≠ b2 ∧ b1 ≠ b3 ∧ b1 ≠ b4 ∧ b2 ≠ b3 ∧ b2 ≠ b4 ∧ b3 ≠ b4)
  case first =>
    obtain ⟨UU, E, hF1, hF2⟩ := cls W.drew
    have HU := hid hF2
    clear hF1 hF2
    refine region_free 11 (fun k => if k = 1 then some ((Obj.cells (madeCells #[.float .f64 0] 6) 47), fun b => .slice (some ⟨b, 0, none⟩) 6 6) else if k = 3 then some ((Obj.cells (madeCells #[.int .i64 0] 6) 2), fun b => .slice (some ⟨b, 0, none⟩) 6 6) else if k = 5 then some ((Obj.cells (madeCells #[.int .i64 0] 6) 2), fun b => .slice (some ⟨b, 0, none⟩) 6 6) else if k = 8 then some ((Obj.cells (madeCells #[.float .f64 0] 12) 47), fun b => .slice (some ⟨b, 0, none⟩) 12 12) else if k = 10 then some ((.cells #[.slice none 0 0, .slice none 0 0, .slice none 0 0, .slice none 0 0, .int .i64 0, .int .i64 0] 25), fun b => .pointer (some ⟨b, 0, none⟩)) else none) (by kernel_rfl) (by kernel_rfl) (by kernel_rfl) ?_
    simp only [List.take_succ_cons, List.take_zero]
    refine wpFree_one HU (by rfl) (by rfl) ?_
    go_big_quiet_step (with_reducible rfl)
    refine wpQuiet_nil ?_
    refine wpFree_lay (ob := (Obj.cells (madeCells #[.float .f64 0] 6) 47)) (mk := fun b => .slice (some ⟨b, 0, none⟩) 6 6) (by rfl) (by kernel_rfl) ?_ ?_
    · refine lay_make (vx := .int .i64 6) (vy := .int .i64 6) (ob := (Obj.cells (madeCells #[.float .f64 0] 6) 47)) (mk := fun b => .slice (some ⟨b, 0, none⟩) 6 6) rfl ?_ ?_ ?_
      · rfl
      · rfl
      · exact M1
    intro b1 fb1
    simp only [Act.put, List.setIfInBounds_toArray, List.set_cons_succ, List.set_cons_zero]
    refine wpFree_one HU (by rfl) (by rfl) ?_
    go_big_quiet_step (with_reducible rfl)
    refine wpQuiet_nil ?_
    refine wpFree_lay (ob := (Obj.cells (madeCells #[.int .i64 0] 6) 2)) (mk := fun b => .slice (some ⟨b, 0, none⟩) 6 6) (by rfl) (by kernel_rfl) ?_ ?_
    · refine lay_make (vx := .int .i64 6) (vy := .int .i64 6) (ob := (Obj.cells (madeCells #[.int .i64 0] 6) 2)) (mk := fun b => .slice (some ⟨b, 0, none⟩) 6 6) rfl ?_ ?_ ?_
      · rfl
      · rfl
      · exact M2
    intro b2 fb2
    simp only [Act.put, List.setIfInBounds_toArray, List.set_cons_succ, List.set_cons_zero]
    refine wpFree_one HU (by rfl) (by rfl) ?_
    go_big_quiet_step (with_reducible rfl)
    refine wpQuiet_nil ?_
    refine wpFree_lay (ob := (Obj.cells (madeCells #[.int .i64 0] 6) 2)) (mk := fun b => .slice (some ⟨b, 0, none⟩) 6 6) (by rfl) (by kernel_rfl) ?_ ?_
    · refine lay_make (vx := .int .i64 6) (vy := .int .i64 6) (ob := (Obj.cells (madeCells #[.int .i64 0] 6) 2)) (mk := fun b => .slice (some ⟨b, 0, none⟩) 6 6) rfl ?_ ?_ ?_
      · rfl
      · rfl
      · exact M2
    intro b3 fb3
    simp only [Act.put, List.setIfInBounds_toArray, List.set_cons_succ, List.set_cons_zero]
    refine wpFree_one HU (by rfl) (by rfl) ?_
    go_big_quiet_step (with_reducible rfl)
    refine wpQuiet_nil ?_
    refine wpFree_one HU (by rfl) (by rfl) ?_
    go_big_quiet_step (with_reducible rfl)
    refine wpQuiet_nil ?_
    refine wpFree_lay (ob := (Obj.cells (madeCells #[.float .f64 0] 12) 47)) (mk := fun b => .slice (some ⟨b, 0, none⟩) 12 12) (by rfl) (by kernel_rfl) ?_ ?_
    · refine lay_make (vx := .int .i64 12) (vy := .int .i64 12) (ob := (Obj.cells (madeCells #[.float .f64 0] 12) 47)) (mk := fun b => .slice (some ⟨b, 0, none⟩) 12 12) rfl ?_ ?_ ?_
      · rfl
      · rfl
      · exact M3
    intro b4 fb4
    simp only [Act.put, List.setIfInBounds_toArray, List.set_cons_succ, List.set_cons_zero]
    refine wpFree_one HU (by rfl) (by rfl) ?_
    go_big_quiet_step (with_reducible rfl)
    refine wpQuiet_nil ?_
    refine wpFree_lay (ob := (.cells #[.slice none 0 0, .slice none 0 0, .slice none 0 0, .slice none 0 0, .int .i64 0, .int .i64 0] 25)) (mk := fun b => .pointer (some ⟨b, 0, none⟩)) (by rfl) (by kernel_rfl) ?_ ?_
    · refine lay_alloc (ob := (.cells #[.slice none 0 0, .slice none 0 0, .slice none 0 0, .slice none 0 0, .int .i64 0, .int .i64 0] 25)) (mk := fun b => .pointer (some ⟨b, 0, none⟩)) rfl ?_
      · exact AL
    intro g4 fg4
    simp only [Act.put, List.setIfInBounds_toArray, List.set_cons_succ, List.set_cons_zero]

    refine wpFree_nil ?_
    intro wz hz
    have h1 := hz.at (i := 1) (b := b1) (ob := (Obj.cells (madeCells #[.float .f64 0] 6) 47)) (by rfl) (by rfl)
    have h2 := hz.at (i := 3) (b := b2) (ob := (Obj.cells (madeCells #[.int .i64 0] 6) 2)) (by rfl) (by rfl)
    have h3 := hz.at (i := 5) (b := b3) (ob := (Obj.cells (madeCells #[.int .i64 0] 6) 2)) (by rfl) (by rfl)
    have h4 := hz.at (i := 8) (b := b4) (ob := (Obj.cells (madeCells #[.float .f64 0] 12) 47)) (by rfl) (by rfl)
    have h5 := hz.at (i := 10) (b := g4) (ob := (.cells #[.slice none 0 0, .slice none 0 0, .slice none 0 0, .slice none 0 0, .int .i64 0, .int .i64 0] 25)) (by rfl) (by rfl)
    have n12 : b1 ≠ b2 := fb2.2 1 b1 (by rfl)
    have n13 : b1 ≠ b3 := fb3.2 1 b1 (by rfl)
    have n14 : b1 ≠ b4 := fb4.2 1 b1 (by rfl)
    have n15 : b1 ≠ g4 := fg4.2 1 b1 (by rfl)
    have n23 : b2 ≠ b3 := fb3.2 3 b2 (by rfl)
    have n24 : b2 ≠ b4 := fb4.2 3 b2 (by rfl)
    have n25 : b2 ≠ g4 := fg4.2 3 b2 (by rfl)
    have n34 : b3 ≠ b4 := fb4.2 5 b3 (by rfl)
    have n35 : b3 ≠ g4 := fg4.2 5 b3 (by rfl)
    have n45 : b4 ≠ g4 := fg4.2 8 b4 (by rfl)
    have AZ : Ab W wz := (Ab.refl W).drew.trans hz.1
    have RZ := hid h5.1
    have HH := hid (And.intro h1 (And.intro h2 (And.intro h3 (And.intro h4 h5))))
    have NN := hid (And.intro n12 (And.intro n13 (And.intro n14 (And.intro n15 (And.intro n23 (And.intro n24 (And.intro n25 (And.intro n34 (And.intro n35 n45)))))))))
    have HAZ := hid AZ
    clear hz fb1 fb2 fb3 fb4 fg4 h1 h2 h3 h4 h5 n12 n13 n14 n15 n23 n24 n25 n34 n35 n45 AZ HU
    clear E UU
    have t0 := cell_of_row _ _ 0 _ _ _ RZ.out
    have t1 := cell_of_row _ _ 1 _ _ _ RZ.out
    have t2 := cell_of_row _ _ 2 _ _ _ RZ.out
    have t3 := cell_of_row _ _ 3 _ _ _ RZ.out
    have t4 := cell_of_row _ _ 4 _ _ _ RZ.out
    have t5 := cell_of_row _ _ 5 _ _ _ RZ.out
    have f0 := free_row RZ.out 0
    have f1 := free_row RZ.out 1
    have f2 := free_row RZ.out 2
    have f3 := free_row RZ.out 3
    have f4 := free_row RZ.out 4
    have f5 := free_row RZ.out 5
    simp only [List.drop_succ_cons, List.drop_zero]
    go_wp2_with fail
    go_meet
    obtain ⟨⟨k1, l1⟩, ⟨k2, l2⟩, ⟨k3, l3⟩, ⟨k4, l4⟩, ⟨k5, l5⟩⟩ := HH.out
    obtain ⟨n12, n13, n14, n15, n23, n24, n25, n34, n35, n45⟩ := NN.out
    have st : ∀ (b : Nat) (o : Obj), b ≠ g4 → wz.heap[b]? = some o → ∀ x0 x1 x2 x3 x4 x5, ((((((wz.setCell ⟨g4, 0, none⟩ x0).setCell ⟨g4, 1, none⟩ x1).setCell ⟨g4, 2, none⟩ x2).setCell ⟨g4, 3, none⟩ x3).setCell ⟨g4, 4, none⟩ x4).setCell ⟨g4, 5, none⟩ x5).heap[b]? = some o := fun b o hb h x0 x1 x2 x3 x4 x5 => by
      rw [heap_set_ne hb, heap_set_ne hb, heap_set_ne hb, heap_set_ne hb, heap_set_ne hb, heap_set_ne hb]
      exact h
    refine ⟨g4, b1, b2, b3, b4, rfl, ?_, row6 k5, st b1 _ n15 k1 _ _ _ _ _ _, st b2 _ n25 k2 _ _ _ _ _ _, st b3 _ n35 k3 _ _ _ _ _ _, st b4 _ n45 k4 _ _ _ _ _ _, l5, l1, l2, l3, l4, Ne.symm n15, Ne.symm n25, Ne.symm n35, Ne.symm n45, n12, n13, n14, n23, n24, n34⟩
    exact (((((HAZ.out.setk l5 _).setk l5 _).setk l5 _).setk l5 _).setk l5 _).setk l5 _
  case rest =>
    obtain ⟨g4, b1, b2, b3, b4, rfl, a4, r4, m1, m2, m3, m4, l5, l1, l2, l3, l4, n51, n52, n53, n54, n12, n13, n14, n23, n24, n34⟩ := hcut
    obtain ⟨gd, hgd⟩ : ∃ x, w.heap.size = x := ⟨_, rfl⟩
    have HL : Hid (gd + 1 ≤ b1 ∧ gd + 1 ≤ b2 ∧ gd + 1 ≤ b3 ∧ gd + 1 ≤ b4 ∧ gd + 1 ≤ g4) := by
      rw [← hW, size1] at l1 l2 l3 l4 l5
      rw [← hgd]
      exact ⟨l1, l2, l3, l4, l5⟩
    have NN : Hid (g4 ≠ b2 ∧ b1 ≠ b2 ∧ b3 ≠ b2 ∧ b4 ≠ b2 ∧ b1 ≠ b4 ∧ b3 ≠ b4) := ⟨n52, n12, Ne.symm n23, Ne.symm n24, n14, n34⟩
    have ZR : Hid (W.heap[gd]? = some (.cells #[.slice none 0 0, .slice none 0 0, .slice none 0 0, .slice none 0 0, .int .i64 0, .int .i64 0] 25)) := by rw [← hW, ← hgd]; exact heap_alloc_new _ _
    have AWW : Hid (Ab w W) := A0.out
    have FI := hid (show LkI w gd g4 b1 b2 b3 b4 0 wc from ⟨AWW.out.trans a4, r4, Ab.heap a4 ZR.out, made_row m1, (made_row m2).congr (fun i _ => by simp), made_row m3, made_row m4⟩)
    have HG := hid g
    have HN : Hid (w.heap.size = gd) := hgd
    rw [hgd]
    clear a4 r4 m1 m2 m3 m4 l1 l2 l3 l4 l5 n51 n52 n53 n54 n12 n13 n14 n23 n24 n34 hgd hW ZR AWW g CC CE M1 M2 M3 AL A0
    go_wp2
    go_loopw [5] (fun iv wr => ∃ c : Nat, c ≤ 6 ∧ iv = .int .i64 (c : Nat) ∧ LkI w gd g4 b1 b2 b3 b4 c wr) (fun iv _ => 6 - (intOf iv).toNat)
    case atStart => exact ⟨0, by omega, rfl, FI.out⟩
    case round =>
      obtain ⟨c, hc, rfl, F⟩ := hrel
      clear FI
      have FF := hid F
      clear F
      by_cases hc6 : c < 6
      · have hc' : (c : Int) < 6 := by omega
        have HC6 := hid hc6
        have AR : Hid (∀ v, Ab w v → Calls Tryz.prog 22 #[.pointer (some ⟨gb, 0, none⟩), .int .i64 (c : Nat)] v fun e w' => e = .returned (.int .i64 1431655765) ∧ Below v.heap.size v w') := fun v hv => by
          have h := gArea_ok (n := 1) (by decide) hc6 (HG.out.to hv)
          rwa [ar13 c hc6] at h
        clear hc6
        go_upto_region 8 with fail
        obtain ⟨UU, E, hF1, hF2⟩ := cls wr
        have HU := hid hF2
        have HU1 := hid hF1
        have x1 : ∀ u, (E u).cell? ⟨g4, 1, none⟩ = some (.slice (some ⟨b2, 0, none⟩) 6 6) := fun u => cell_of_row _ _ 1 _ _ _ (FF.out.to (hF1 u)).2.1
        have HX : Hid (∀ u, Ab w (E u)) := fun u => (FF.out.to (hF1 u)).1
        have DD0 := HU.out _ (Ab.refl wr).drew
        clear hF1 hF2
        refine region_tail 7 E (by kernel_rfl) (by kernel_rfl) (by kernel_rfl) DD0 ?_
        simp only [List.take_succ_cons, List.take_zero, List.drop_succ_cons, List.drop_zero]
        repeat (go_big_quiet_step (first
          | (with_reducible rfl)
          | (go_at_call 22; exact calls_cls HU HU1 (AR.out _ (HX.out _)))))
        refine wpQuiet_nil ?_
        intro vz hwz
        obtain ⟨u0, hu⟩ := hwz
        have AZ : Hid (Ab wr vz) := by rw [hu]; exact HU1.out u0
        clear hu u0
        clear HU HU1 HX DD0 x1
        clear E UU
        have FZ := hid (FF.out.to AZ.out)
        have z1 := FZ.out.2.2.2.2.1.cell HC6.out
        have z2 := FZ.out.2.2.2.2.1.frozen c
        go_upto_region 9 with fail
        have F2 := hid (FZ.out.set NN.out HL.out c 1431655765 (by rw [HN.out]; exact Nat.le_refl _))
        clear z1 z2 FZ FF AZ
        generalize World.setCell vz _ _ = v2 at *
        by_cases c1 : c = 1
        · subst c1
          have y1 := cell_of_row _ _ 1 _ _ _ F2.out.2.1
          have p1 : v2.cell? ⟨b2, 1, none⟩ = some (.int .i64 1431655765) := by rw [F2.out.2.2.2.2.1.cell HC6.out]; simp
          have p2 := F2.out.2.2.2.2.1.frozen 1
          go_upto_region 10 with fail
          clear y1 p1 p2
          obtain ⟨UU, E, hF1, hF2⟩ := cls v2
          have HU := hid hF2
          have HU1 := hid hF1
          have x1 : ∀ u, (E u).cell? ⟨g4, 1, none⟩ = some (.slice (some ⟨b2, 0, none⟩) 6 6) := fun u => cell_of_row _ _ 1 _ _ _ ((hF1 u).heap F2.out.2.1)
          have x2 : ∀ u, (E u).cell? ⟨b2, 1, none⟩ = some (.int .i64 1431655765) := fun u => by rw [(rowIs.ab F2.out.2.2.2.2.1 (hF1 u)).cell HC6.out]; simp
          have DD0 := HU.out _ (Ab.refl v2).drew
          clear hF1 hF2
          refine region_tail 10 E (by kernel_rfl) (by kernel_rfl) (by kernel_rfl) DD0 ?_
          simp only [List.take_succ_cons, List.take_zero, List.drop_succ_cons, List.drop_zero]
          repeat (go_big_quiet_step (with_reducible rfl))
          refine wpQuiet_nil ?_
          intro vz hwz
          obtain ⟨u0, hu⟩ := hwz
          have AZ : Hid (Ab v2 vz) := by rw [hu]; exact HU1.out u0
          clear hu u0
          clear HU HU1 DD0 x1 x2
          clear E UU
          have F3 := hid (F2.out.to2 AZ.out)
          have z1 := F3.out.2.2.2.2.1.cell HC6.out
          have z2 := F3.out.2.2.2.2.1.frozen 1
          go_wp2
          refine ⟨⟨2, by omega, by simp, ?_⟩, by simp [intOf]⟩
          exact (F3.out.set NN.out HL.out 1 2863311530 (by rw [HN.out]; exact Nat.le_refl _)).fin (fun i => by
            by_cases e : i = 1
            · simp [e, lkW]
            · by_cases e2 : i < 1
              · have : i < 2 := by omega
                simp [e, e2, this]
              · have : ¬ i < 2 := by omega
                simp [e, e2, this])
        · have c2 : ((c : Int) == 1) = false := by rw [beq_eq_false_iff_ne]; omega
          go_wp2
          refine ⟨⟨c + 1, by have := HC6.out; omega, by simp, ?_⟩, by simp [intOf]; have := HC6.out; omega⟩
          exact F2.out.fin (fun i => by
            by_cases e : i = c
            · subst e
              simp [lkW, c1]
            · by_cases l : i < c
              · simp [e, l, show i < c + 1 by omega]
              · simp [e, l, show ¬ i < c + 1 by omega])
      · have e6 : c = 6 := by omega
        subst e6
        have s0 := cell_of_row _ _ 0 _ _ _ FF.out.2.1
        have s1 := cell_of_row _ _ 1 _ _ _ FF.out.2.1
        have s2 := cell_of_row _ _ 2 _ _ _ FF.out.2.1
        have s3 := cell_of_row _ _ 3 _ _ _ FF.out.2.1
        have s4 := cell_of_row _ _ 4 _ _ _ FF.out.2.1
        have s5 := cell_of_row _ _ 5 _ _ _ FF.out.2.1
        have RZ := FF.out.2.2.1
        have t0 := cell_of_row _ _ 0 _ _ _ RZ
        have t1 := cell_of_row _ _ 1 _ _ _ RZ
        have t2 := cell_of_row _ _ 2 _ _ _ RZ
        have t3 := cell_of_row _ _ 3 _ _ _ RZ
        have t4 := cell_of_row _ _ 4 _ _ _ RZ
        have t5 := cell_of_row _ _ 5 _ _ _ RZ
        have f0 := free_row RZ 0
        have f1 := free_row RZ 1
        have f2 := free_row RZ 2
        have f3 := free_row RZ 3
        have f4 := free_row RZ 4
        have f5 := free_row RZ 5
        have ROW := hid (row6 (x := .slice (some ⟨b1, 0, none⟩) 6 6) (y := .slice (some ⟨b2, 0, none⟩) 6 6) (z := .slice (some ⟨b3, 0, none⟩) 6 6) (p := .slice (some ⟨b4, 0, none⟩) 12 12) (q := .int .i64 0) (r := .int .i64 0) RZ)
        clear RZ
        go_wp2
        have BN : Hid (b1 ≠ gd ∧ b2 ≠ gd ∧ b3 ≠ gd ∧ b4 ≠ gd) := by
          have := HL.out
          exact ⟨by omega, by omega, by omega, by omega⟩
        have G1 := FF.out.2.2.2.1
        have G2 := FF.out.2.2.2.2.1
        have G3 := FF.out.2.2.2.2.2.1
        have G4 := FF.out.2.2.2.2.2.2
        have GA := FF.out.1
        refine bodyPost_ret ?_ rfl ⟨b1, b2, b3, b4, rfl, ?_, ?_, ?_, ?_, ?_, ?_⟩
        · exact results_cell_row Tryz.results17 _ _ gd _ _ (0, 0) _ rfl ROW.out Tryz.underlying25 rfl (by kernel_rfl)
        · exact (((((GA.setk (by rw [HN.out]; omega) _).setk (by rw [HN.out]; omega) _).setk (by rw [HN.out]; omega) _).setk (by rw [HN.out]; omega) _).setk (by rw [HN.out]; omega) _).setk (by rw [HN.out]; omega) _
        · exact (((((G1.setOther BN.out.1 _).setOther BN.out.1 _).setOther BN.out.1 _).setOther BN.out.1 _).setOther BN.out.1 _).setOther BN.out.1 _
        · exact ((((((G2.congr (fun i hi => by simp [hi])).setOther BN.out.2.1 _).setOther BN.out.2.1 _).setOther BN.out.2.1 _).setOther BN.out.2.1 _).setOther BN.out.2.1 _).setOther BN.out.2.1 _
        · exact (((((G3.setOther BN.out.2.2.1 _).setOther BN.out.2.2.1 _).setOther BN.out.2.2.1 _).setOther BN.out.2.2.1 _).setOther BN.out.2.2.1 _).setOther BN.out.2.2.1 _
        · exact (((((G4.setOther BN.out.2.2.2 _).setOther BN.out.2.2.2 _).setOther BN.out.2.2.2 _).setOther BN.out.2.2.2 _).setOther BN.out.2.2.2 _).setOther BN.out.2.2.2 _
        · have := HL.out
          exact ⟨⟨by rw [HN.out]; omega, by rw [HN.out]; omega, by rw [HN.out]; omega, by rw [HN.out]; omega⟩, NN.out.2.1, NN.out.2.2.2.2.1, Ne.symm NN.out.2.2.2.1, NN.out.2.2.2.2.2, NN.out.2.2.1⟩
end Rv
end Go.Proofs.YtbibhgikmnpbfaaGreatDoor

namespace Go.Proofs.YtbibhgikmnpbfaaGreatDoor
open Go.RowKit Tf Cu Go.Deep
attribute [local go_sem] run_bits run_from raw_feq raw_fne raw_flt raw_fgt run_neg run_store_float
namespace Rv
set_option maxRecDepth 100000 in
set_option maxHeartbeats 4000000 in
theorem numbers19_at (pa pb : Option Addr) (len ca cb : Nat) (xs : Nat → Int) (w : World) (hl : len ≤ 281474976710656) (hA : Sh.IsI w pa len xs) (hB : Sh.IsI w pb len xs) :
    Calls Tryz.prog 11 #[.slice pa len ca, .slice pb len cb] w fun e w' => e = .returned (.bool true) ∧ Below w.heap.size w w' := by
  have HA := hid hA
  have HB := hid hB
  have HL := hid hl
  clear hA hB hl
  go_enter Tryz.func11, Tryz.ntmps11
  go_wp2
  go_loopw [5] (fun iv wr => ∃ c : Nat, c ≤ len ∧ iv = .int .i64 (c : Nat) ∧ Ab w wr) (fun iv _ => len - (intOf iv).toNat)
  case atStart => exact ⟨0, by omega, rfl, Ab.refl w⟩
  case round =>
    obtain ⟨c, hc, rfl, ar⟩ := hrel
    have AR := hid ar
    clear ar
    by_cases h : c < len
    · have HC := hid h
      obtain ⟨x, hx⟩ : ∃ x, xs c = x := ⟨_, rfl⟩
      obtain ⟨-, b1, o1, e1, l1, c1⟩ := HA.out c h
      obtain ⟨-, b2, o2, e2, l2, c2⟩ := HB.out c h
      rw [hx] at c1 c2
      have C1 := hid c1
      have C2 := hid c2
      have L1 := hid l1
      have L2 := hid l2
      have hcI : (c : Int) < len := by omega
      have hcB : (c : Int) ≤ 281474976710656 := by have := HL.out; omega
      clear c1 c2 l1 l2 hx h
      subst e1 e2
      go_upto_region 6 with fail
      obtain ⟨UU, E, hF1, hF2⟩ := cls wr
      have HU := hid hF2
      have HU1 := hid hF1
      have x1 : ∀ u, (E u).cell? ⟨b1, o1 + c, none⟩ = some (.int .i64 x) := fun u => (Below.cell (AR.out.trans (hF1 u)) L1.out).trans C1.out
      have x2 : ∀ u, (E u).cell? ⟨b2, o2 + c, none⟩ = some (.int .i64 x) := fun u => (Below.cell (AR.out.trans (hF1 u)) L2.out).trans C2.out
      have DD0 := HU.out _ (Ab.refl wr).drew
      clear hF1 hF2
      refine region_cls E (by kernel_rfl) (by kernel_rfl) DD0 ?_
      repeat (go_big_quiet_step (with_reducible rfl))
      refine wpQuiet_nil ?_
      intro z hwz
      obtain ⟨u0, hu⟩ := hwz
      have AZ : Hid (Ab w z) := by rw [hu]; exact AR.out.trans (HU1.out u0)
      clear hu u0
      clear HU HU1 DD0 x1 x2
      clear E UU
      go_wp2
      go_roundw
      case rel => exact ⟨c + 1, by have := HC.out; omega, by simp, AZ.out⟩
      case measure => simp [intOf]; have := HC.out; omega
    · have e : len = c := by omega
      subst e
      go_wp2
      go_ret
      exact ⟨rfl, AR.out⟩
theorem OwnN.in {B : Nat} {v : Value} {l : List Nat} {w : World} (h : OwnN B v l w) (hl : ∀ x ∈ l, x ≤ 9223372036854775807) : ∃ a0 cap, v = .slice a0 l.length cap ∧ Sh.IsI w a0 l.length (fun j => ((l.getD j 0 : Nat) : Int)) := by
  rcases h.2 with ⟨rfl, h0⟩ | ⟨g, cap, cur, rfl, hb, hg, h1, h2, h3, h4⟩
  · exact ⟨none, 0, by rw [h0], fun k hk => by omega⟩
  · refine ⟨some ⟨g, 0, none⟩, cap, rfl, fun k hk => ?_⟩
    have hx : l.getD k 0 = l[k] := by simp [List.getD, hk]
    have := hl _ (List.getElem_mem hk)
    refine ⟨by dsimp only; rw [hx]; omega, g, 0, rfl, lt_of_block hg, ?_⟩
    have e := h.cells (g := g) rfl k (.int .i64 ((l.getD k 0 : Nat) : Int)) (by simp [hk])
    rw [Sh.add_off] at e
    exact e
end Rv
end Go.Proofs.YtbibhgikmnpbfaaGreatDoor

namespace Go.Proofs.YtbibhgikmnpbfaaGreatDoor
open Go.RowKit Tf Cu Go.Deep
attribute [local go_sem] run_bits run_from raw_feq raw_fne raw_flt raw_fgt run_neg run_store_float
namespace Rv
set_option maxRecDepth 100000 in
set_option maxHeartbeats 16000000 in
theorem rless19_at (a b : Nat) (w : World) (ha : a < 18446744073709551616) (hb : b < 18446744073709551616) :
    Calls Tryz.prog 50 #[.float .f64 a, .float .f64 b] w fun e w' => e = .returned (.bool (decide (kb a < kb b))) ∧ Below w.heap.size w w' := by
  obtain ⟨x, hx⟩ : ∃ x, canonB a = x := ⟨_, rfl⟩
  obtain ⟨y, hy⟩ : ∃ x, canonB b = x := ⟨_, rfl⟩
  have C1 := hid (refCanon_any a w)
  have C2 := hid (refCanon_any b w)
  have lx : x < 18446744073709551616 := by rw [← hx]; exact canon_lt ha
  have ly : y < 18446744073709551616 := by rw [← hy]; exact canon_lt hb
  obtain ⟨o, ho⟩ : ∃ o, orderB x y = o := ⟨_, rfl⟩
  have O := hid (refOrder_any x y w lx ly)
  have E : Hid (decide (o < 0) = decide (kb a < kb b)) := by
    show _ = _
    have h := orderB_lt x y
    rw [ho] at h
    unfold kb
    rw [hx, hy]
    exact decide_eq_decide.2 h
  rw [hx] at C1
  rw [hy] at C2
  rw [ho] at O
  clear ho hx hy ha hb lx ly
  go_enter Tryz.func50, Tryz.ntmps50
  go_wp2_with fail
  refine C1.out.mono ?_
  rintro e9 v9 ⟨rfl, hv9⟩
  have hv8 := hv9.symm
  subst hv8
  go_wp2_with fail
  refine C2.out.mono ?_
  rintro e9 v9 ⟨rfl, hv9⟩
  have hv8 := hv9.symm
  subst hv8
  go_wp2_with fail
  refine O.out.mono ?_
  rintro e9 v9 ⟨rfl, hv9⟩
  have hv8 := hv9.symm
  subst hv8
  go_wp2
  go_ret
  exact ⟨by rw [← E.out]; rfl, Below.refl _ _⟩
set_option maxRecDepth 100000 in
set_option maxHeartbeats 16000000 in
theorem rdown_len (n rb : Nat) (pb : Option Addr) (lb cb : Nat) (cell : Int) (w : World) (hn : 1 ≤ n ∧ n ≤ 32) (g : RefOf n rb w) (hl : lb ≠ 6 * n * n) :
    Calls Tryz.prog 16 #[.pointer (some ⟨rb, 0, none⟩), .slice pb lb cb, .int .i64 cell] w fun e w' => e = .returned (.int .i64 (-1)) ∧ Below w.heap.size w w' := by
  have CC := hid (rCells_at hn g)
  generalize 6 * n * n = N at *
  have e1 : ((lb : Int) != (N : Int)) = true := by simp; omega
  clear hl g hn
  go_enter Tryz.func16, Tryz.ntmps16
  go_wp2_with fail
  refine CC.out.mono ?_
  rintro e9 v9 ⟨rfl, hv9⟩
  have hv8 := hv9.symm
  subst hv8
  go_wp2
  go_ret
  exact ⟨rfl, Below.refl _ _⟩
set_option maxRecDepth 100000 in
set_option maxHeartbeats 16000000 in
theorem rdown_out (n rb : Nat) (pb : Option Addr) (lb cb : Nat) (cell : Int) (w : World) (hn : 1 ≤ n ∧ n ≤ 32) (g : RefOf n rb w) (hl : lb = 6 * n * n) (hc : ¬ (0 ≤ cell ∧ cell < (lb : Nat))) :
    Calls Tryz.prog 16 #[.pointer (some ⟨rb, 0, none⟩), .slice pb lb cb, .int .i64 cell] w fun e w' => e = .returned (.int .i64 (-1)) ∧ Below w.heap.size w w' := by
  have CC := hid (rCells_at hn g)
  rw [← hl] at CC
  have e1 : ((lb : Int) != (lb : Int)) = false := by simp
  clear hl g hn
  by_cases c0 : cell < 0
  · have e2 : decide (cell < 0) = true := decide_eq_true c0
    clear hc c0
    go_enter Tryz.func16, Tryz.ntmps16
    go_wp2_with fail
    refine CC.out.mono ?_
    rintro e9 v9 ⟨rfl, hv9⟩
    have hv8 := hv9.symm
    subst hv8
    go_wp2
    go_ret
    exact ⟨rfl, Below.refl _ _⟩
  · have e2 : decide (cell < 0) = false := decide_eq_false c0
    have e3 : decide ((lb : Int) ≤ cell) = true := decide_eq_true (by omega)
    clear hc c0
    go_enter Tryz.func16, Tryz.ntmps16
    go_wp2_with fail
    refine CC.out.mono ?_
    rintro e9 v9 ⟨rfl, hv9⟩
    have hv8 := hv9.symm
    subst hv8
    go_wp2
    go_ret
    exact ⟨rfl, Below.refl _ _⟩
set_option maxRecDepth 100000 in
set_option maxHeartbeats 16000000 in
theorem rdown_go (n N rb : Nat) (qb ob : Nat) (cb : Nat) (B : Nat → Nat) (nb sd : Nat → Nat) (c : Nat) (w : World) (hN : N ≤ 6144) (hc : c < N) (HR : Hid (RefOf n rb w)) (IB : Hid (IsFl w (some ⟨qb, ob, none⟩) N B))
    (CC : Hid (Calls Tryz.prog 48 #[.pointer (some ⟨rb, 0, none⟩)] w fun e w' => e = .returned (.int .i64 (N : Nat)) ∧ w' = w))
    (BS : Hid (∀ v s, Ab w v → s < 4 → Calls Tryz.prog 34 #[.int .i64 (n : Nat), .int .i64 (c : Nat), .int .i64 (s : Nat)] v fun e w' => e = .returned (.tuple #[.int .i64 (nb s : Nat), .int .i64 (sd s : Nat)]) ∧ Below v.heap.size v w'))
    (NL : Hid (∀ s, s < 4 → nb s < N)) :
    Calls Tryz.prog 16 #[.pointer (some ⟨rb, 0, none⟩), .slice (some ⟨qb, ob, none⟩) N cb, .int .i64 (c : Nat)] w fun e w' => e = .returned (.int .i64 (dnI (kB B) nb c)) ∧ Below w.heap.size w w' := by
  have e1 : ((N : Int) != (N : Int)) = false := by simp
  have e2 : decide ((c : Int) < 0) = false := decide_eq_false (by omega)
  have e3 : decide ((N : Int) ≤ (c : Int)) = false := decide_eq_false (by omega)
  have e4 : decide (N ≤ c) = false := decide_eq_false (by omega)
  have HN := hid hN
  have HC := hid hc
  have cI : (c : Int) < N := by omega
  have cB : (c : Int) ≤ 6144 := by omega
  clear hN hc
  go_enter Tryz.func16, Tryz.ntmps16
  go_wp2_with fail
  refine CC.out.mono ?_
  rintro e9 v9 ⟨rfl, hv9⟩
  have hv8 := hv9.symm
  subst hv8
  go_wp2
  go_loopw [7, 8] (fun bv iv wr => ∃ k : Nat, k ≤ 4 ∧ iv = .int .i64 (k : Nat) ∧ bv = .int .i64 (if k = 0 then -1 else ((bst (kB B) nb (k - 1) : Nat) : Int)) ∧ Ab w wr) (fun _ iv _ => 4 - (intOf iv).toNat)
  case atStart => exact ⟨0, by omega, rfl, rfl, Ab.refl w⟩
  case round =>
    obtain ⟨k, hk, rfl, rfl, ar⟩ := hrel
    have AR := hid ar
    clear ar
    by_cases hk4 : k < 4
    · have HK := hid hk4
      have kI : (k : Int) < 4 := by omega
      obtain ⟨cc, hcc⟩ : ∃ x, nb k = x := ⟨_, rfl⟩
      have ccl := NL.out k hk4
      rw [hcc] at ccl
      have HCC := hid hcc
      have CL := hid ccl
      have SI := hid (rSide_at (HR.out.to AR.out))
      have BB := hid (BS.out wr k AR.out hk4)
      rw [hcc] at BB
      obtain ⟨x, hx⟩ : ∃ x, B cc = x := ⟨_, rfl⟩
      have XC : Hid (∀ v, Ab w v → v.cell? ⟨qb, ob + cc, none⟩ = some (.float .f64 x)) := fun v a => by rw [← hx]; exact ((IB.out.below a).at0 ccl).2.2
      have xl : x < 18446744073709551616 := by rw [← hx]; exact (IB.out cc ccl).1
      have HX := hid hx
      have ccI : (cc : Int) < N := by omega
      have ccB : (cc : Int) ≤ 6144 := by have := HN.out; omega
      clear hcc hx ccl
      by_cases k0 : k = 0
      · subst k0
        rw [if_pos rfl]
        have E0 : Hid (bst (kB B) nb 0 = cc) := HCC.out
        go_wp2_with fail
        refine SI.out.mono ?_
        rintro e9 v9 ⟨rfl, hv9⟩
        have hv8 := hv9.symm
        subst hv8
        go_wp2_with fail
        refine BB.out.mono ?_
        rintro e9 v1 ⟨rfl, b1⟩
        have A1 : Hid (Ab wr v1) := b1
        clear b1
        go_upto_region 8 with fail
        obtain ⟨UU, E, hF1, hF2⟩ := cls v1
        have HU := hid hF2
        have HU1 := hid hF1
        have y1 : ∀ u, (E u).cell? ⟨qb, ob + cc, none⟩ = some (.float .f64 x) := fun u => XC.out _ (AR.out.trans (A1.out.trans (hF1 u)))
        have DD0 := HU.out _ (Ab.refl v1).drew
        clear hF1 hF2
        refine region_cls E (by kernel_rfl) (by kernel_rfl) DD0 ?_
        repeat (go_big_quiet_step (with_reducible rfl))
        refine wpQuiet_nil ?_
        intro v2 hwz
        obtain ⟨u0, hu⟩ := hwz
        have A2 : Hid (Ab v1 v2) := by rw [hu]; exact HU1.out u0
        clear hu u0
        clear HU HU1 DD0 y1
        clear E UU
        go_wp2
        exact ⟨⟨1, by omega, by simp, by rw [if_neg (by decide)]; show _ = Value.int .i64 ((bst (kB B) nb 0 : Nat) : Int); rw [E0.out], AR.out.trans (A1.out.trans A2.out)⟩, by simp [intOf]⟩
      · rw [if_neg k0]
        obtain ⟨bb, hbb⟩ : ∃ x, bst (kB B) nb (k - 1) = x := ⟨_, rfl⟩
        have bl : bb < N := by
          obtain ⟨s, h1, h2⟩ := bst_in (kB B) nb (k - 1)
          rw [← hbb, h2]
          exact NL.out s (by omega)
        have EB : Hid (bst (kB B) nb k = if lt2 (kB B) cc bb = true then cc else bb) := by
          show _ = _
          obtain ⟨j, rfl⟩ : ∃ j, k = j + 1 := ⟨k - 1, by omega⟩
          show (if lt2 (kB B) (nb (j + 1)) (bst (kB B) nb j) = true then nb (j + 1) else bst (kB B) nb j) = _
          have e : bst (kB B) nb j = bb := hbb
          rw [HCC.out, e]
        rw [hbb]
        obtain ⟨y, hy⟩ : ∃ x, B bb = x := ⟨_, rfl⟩
        have YC : Hid (∀ v, Ab w v → v.cell? ⟨qb, ob + bb, none⟩ = some (.float .f64 y)) := fun v a => by rw [← hy]; exact ((IB.out.below a).at0 bl).2.2
        have yl : y < 18446744073709551616 := by rw [← hy]; exact (IB.out bb bl).1
        have LT : Hid (lt2 (kB B) cc bb = (decide (kb x < kb y) || (decide (kb x = kb y) && decide (cc < bb)))) := by show lt2 _ _ _ = _; unfold lt2 kB; rw [HX.out, hy]
        have L1 := hid (fun v => rless19_at x y v xl yl)
        have L2 := hid (fun v => rless19_at y x v yl xl)
        have bI : (bb : Int) < N := by omega
        have bB : (bb : Int) ≤ 6144 := by have := HN.out; omega
        have b0 : decide ((bb : Int) < 0) = false := decide_eq_false (by omega)
        have K1 : Hid (k + 1 ≠ 0 ∧ k + 1 - 1 = k) := ⟨by omega, by omega⟩
        clear hbb hy xl yl bl k0
        go_wp2_with fail
        refine SI.out.mono ?_
        rintro e9 v9 ⟨rfl, hv9⟩
        have hv8 := hv9.symm
        subst hv8
        go_wp2_with fail
        refine BB.out.mono ?_
        rintro e9 v1 ⟨rfl, b1⟩
        have A1 : Hid (Ab wr v1) := b1
        clear b1
        have E1 : Hid (lt2 (kB B) cc bb = true → bst (kB B) nb k = cc) := fun h => by rw [EB.out, if_pos h]
        have E2 : Hid (lt2 (kB B) cc bb = false → bst (kB B) nb k = bb) := fun h => by rw [EB.out, if_neg (by rw [h]; decide)]
        cases d1 : decide (kb x < kb y) with
        | true =>
          have LQ : Hid (lt2 (kB B) cc bb = true) := LT.out.trans (by rw [d1]; rfl)
          rw [d1] at L1
          go_upto_region 8 with fail
          obtain ⟨UU, E, hF1, hF2⟩ := cls v1
          have HU := hid hF2
          have HU1 := hid hF1
          have y1 : ∀ u, (E u).cell? ⟨qb, ob + cc, none⟩ = some (.float .f64 x) := fun u => XC.out _ (AR.out.trans (A1.out.trans (hF1 u)))
          have y2 : ∀ u, (E u).cell? ⟨qb, ob + bb, none⟩ = some (.float .f64 y) := fun u => YC.out _ (AR.out.trans (A1.out.trans (hF1 u)))
          have DD0 := HU.out _ (Ab.refl v1).drew
          clear hF1 hF2
          refine region_cls E (by kernel_rfl) (by kernel_rfl) DD0 ?_
          repeat (go_big_quiet_step (first | (go_at_call_of 50 (#[Value.float .f64 x, Value.float .f64 y]); exact calls_cls HU HU1 (L1.out _)) | (go_at_call_of 50 (#[Value.float .f64 y, Value.float .f64 x]); exact calls_cls HU HU1 (L2.out _)) | (with_reducible rfl)))
          refine wpQuiet_nil ?_
          intro v2 hwz
          obtain ⟨u0, hu⟩ := hwz
          have A2 : Hid (Ab v1 v2) := by rw [hu]; exact HU1.out u0
          clear hu u0
          clear HU HU1 DD0 y1 y2
          clear E UU
          go_wp2
          exact ⟨⟨k + 1, by have := HK.out; omega, by simp, by rw [if_neg K1.out.1, K1.out.2, E1.out LQ.out], AR.out.trans (A1.out.trans A2.out)⟩, by have := HK.out; simp [intOf]; omega⟩
        | false =>
          rw [d1] at L1
          cases d2 : decide (kb y < kb x) with
          | true =>
            have LQ : Hid (lt2 (kB B) cc bb = false) := LT.out.trans (by
              rw [d1, decide_eq_false (show ¬ kb x = kb y by have := of_decide_eq_true d2; omega)]
              rfl)
            rw [d2] at L2
            go_upto_region 8 with fail
            obtain ⟨UU, E, hF1, hF2⟩ := cls v1
            have HU := hid hF2
            have HU1 := hid hF1
            have y1 : ∀ u, (E u).cell? ⟨qb, ob + cc, none⟩ = some (.float .f64 x) := fun u => XC.out _ (AR.out.trans (A1.out.trans (hF1 u)))
            have y2 : ∀ u, (E u).cell? ⟨qb, ob + bb, none⟩ = some (.float .f64 y) := fun u => YC.out _ (AR.out.trans (A1.out.trans (hF1 u)))
            have DD0 := HU.out _ (Ab.refl v1).drew
            clear hF1 hF2
            refine region_cls E (by kernel_rfl) (by kernel_rfl) DD0 ?_
            repeat (go_big_quiet_step (first | (go_at_call_of 50 (#[Value.float .f64 x, Value.float .f64 y]); exact calls_cls HU HU1 (L1.out _)) | (go_at_call_of 50 (#[Value.float .f64 y, Value.float .f64 x]); exact calls_cls HU HU1 (L2.out _)) | (with_reducible rfl)))
            refine wpQuiet_nil ?_
            intro v2 hwz
            obtain ⟨u0, hu⟩ := hwz
            have A2 : Hid (Ab v1 v2) := by rw [hu]; exact HU1.out u0
            clear hu u0
            clear HU HU1 DD0 y1 y2
            clear E UU
            go_wp2
            exact ⟨⟨k + 1, by have := HK.out; omega, by simp, by rw [if_neg K1.out.1, K1.out.2, E2.out LQ.out], AR.out.trans (A1.out.trans A2.out)⟩, by have := HK.out; simp [intOf]; omega⟩
          | false =>
            rw [d2] at L2
            have KE : kb x = kb y := by
              have := of_decide_eq_false d1
              have := of_decide_eq_false d2
              omega
            by_cases d3 : cc < bb
            · have d4 : decide ((cc : Int) < (bb : Int)) = true := decide_eq_true (by omega)
              have d5 : decide (cc < bb) = true := decide_eq_true d3
              have LQ : Hid (lt2 (kB B) cc bb = true) := LT.out.trans (by rw [d1, decide_eq_true KE, decide_eq_true d3]; rfl)
              clear KE d3
              go_upto_region 8 with fail
              obtain ⟨UU, E, hF1, hF2⟩ := cls v1
              have HU := hid hF2
              have HU1 := hid hF1
              have y1 : ∀ u, (E u).cell? ⟨qb, ob + cc, none⟩ = some (.float .f64 x) := fun u => XC.out _ (AR.out.trans (A1.out.trans (hF1 u)))
              have y2 : ∀ u, (E u).cell? ⟨qb, ob + bb, none⟩ = some (.float .f64 y) := fun u => YC.out _ (AR.out.trans (A1.out.trans (hF1 u)))
              have DD0 := HU.out _ (Ab.refl v1).drew
              clear hF1 hF2
              refine region_cls E (by kernel_rfl) (by kernel_rfl) DD0 ?_
              repeat (go_big_quiet_step (first | (go_at_call_of 50 (#[Value.float .f64 x, Value.float .f64 y]); exact calls_cls HU HU1 (L1.out _)) | (go_at_call_of 50 (#[Value.float .f64 y, Value.float .f64 x]); exact calls_cls HU HU1 (L2.out _)) | (with_reducible rfl)))
              refine wpQuiet_nil ?_
              intro v2 hwz
              obtain ⟨u0, hu⟩ := hwz
              have A2 : Hid (Ab v1 v2) := by rw [hu]; exact HU1.out u0
              clear hu u0
              clear HU HU1 DD0 y1 y2
              clear E UU
              go_wp2
              exact ⟨⟨k + 1, by have := HK.out; omega, by simp, by rw [if_neg K1.out.1, K1.out.2, E1.out LQ.out], AR.out.trans (A1.out.trans A2.out)⟩, by have := HK.out; simp [intOf]; omega⟩
            · have d4 : decide ((cc : Int) < (bb : Int)) = false := decide_eq_false (by omega)
              have d5 : decide (cc < bb) = false := decide_eq_false d3
              have LQ : Hid (lt2 (kB B) cc bb = false) := LT.out.trans (by rw [d1, decide_eq_false d3, Bool.and_false]; rfl)
              clear KE d3
              go_upto_region 8 with fail
              obtain ⟨UU, E, hF1, hF2⟩ := cls v1
              have HU := hid hF2
              have HU1 := hid hF1
              have y1 : ∀ u, (E u).cell? ⟨qb, ob + cc, none⟩ = some (.float .f64 x) := fun u => XC.out _ (AR.out.trans (A1.out.trans (hF1 u)))
              have y2 : ∀ u, (E u).cell? ⟨qb, ob + bb, none⟩ = some (.float .f64 y) := fun u => YC.out _ (AR.out.trans (A1.out.trans (hF1 u)))
              have DD0 := HU.out _ (Ab.refl v1).drew
              clear hF1 hF2
              refine region_cls E (by kernel_rfl) (by kernel_rfl) DD0 ?_
              repeat (go_big_quiet_step (first | (go_at_call_of 50 (#[Value.float .f64 x, Value.float .f64 y]); exact calls_cls HU HU1 (L1.out _)) | (go_at_call_of 50 (#[Value.float .f64 y, Value.float .f64 x]); exact calls_cls HU HU1 (L2.out _)) | (with_reducible rfl)))
              refine wpQuiet_nil ?_
              intro v2 hwz
              obtain ⟨u0, hu⟩ := hwz
              have A2 : Hid (Ab v1 v2) := by rw [hu]; exact HU1.out u0
              clear hu u0
              clear HU HU1 DD0 y1 y2
              clear E UU
              go_wp2
              exact ⟨⟨k + 1, by have := HK.out; omega, by simp, by rw [if_neg K1.out.1, K1.out.2, E2.out LQ.out], AR.out.trans (A1.out.trans A2.out)⟩, by have := HK.out; simp [intOf]; omega⟩
    · have k4 : k = 4 := by omega
      subst k4
      rw [if_neg (by decide)]
      obtain ⟨bb, hbb⟩ : ∃ x, bst (kB B) nb (4 - 1) = x := ⟨_, rfl⟩
      rw [hbb]
      have bl : bb < N := by
        obtain ⟨s, h1, h2⟩ := bst_in (kB B) nb (4 - 1)
        rw [← hbb, h2]
        exact NL.out s (by omega)
      have DE : Hid (dnI (kB B) nb c = if kB B bb < kB B c then ((bb : Nat) : Int) else -1) := by
        show _ = _
        unfold dnI
        have e : bst (kB B) nb 3 = bb := hbb
        rw [e]
      obtain ⟨y, hy⟩ : ∃ x, B bb = x := ⟨_, rfl⟩
      obtain ⟨x, hx⟩ : ∃ x, B c = x := ⟨_, rfl⟩
      have XC : Hid (∀ v, Ab w v → v.cell? ⟨qb, ob + c, none⟩ = some (.float .f64 x)) := fun v a => by rw [← hx]; exact ((IB.out.below a).at0 HC.out).2.2
      have YC : Hid (∀ v, Ab w v → v.cell? ⟨qb, ob + bb, none⟩ = some (.float .f64 y)) := fun v a => by rw [← hy]; exact ((IB.out.below a).at0 bl).2.2
      have L2 := hid (fun v => rless19_at y x v (by rw [← hy]; exact (IB.out bb bl).1) (by rw [← hx]; exact (IB.out c HC.out).1))
      have DK : Hid (dnI (kB B) nb c = if decide (kb y < kb x) = true then ((bb : Nat) : Int) else -1) := by
        show _ = _
        rw [DE.out]
        have e1 : kB B bb = kb y := by unfold kB; rw [hy]
        have e2 : kB B c = kb x := by unfold kB; rw [hx]
        rw [e1, e2]
        simp only [decide_eq_true_eq]
      have bI : (bb : Int) < N := by omega
      have bB : (bb : Int) ≤ 6144 := by have := HN.out; omega
      have b0 : decide ((0 : Int) ≤ (bb : Int)) = true := decide_eq_true (by omega)
      clear hbb hy hx bl DE
      cases d1 : decide (kb y < kb x) with
      | true =>
        rw [d1] at L2
        rw [d1, if_pos rfl] at DK
        go_upto_region 10 with fail
        obtain ⟨UU, E, hF1, hF2⟩ := cls wr
        have HU := hid hF2
        have HU1 := hid hF1
        have y1 : ∀ u, (E u).cell? ⟨qb, ob + c, none⟩ = some (.float .f64 x) := fun u => XC.out _ (AR.out.trans (hF1 u))
        have y2 : ∀ u, (E u).cell? ⟨qb, ob + bb, none⟩ = some (.float .f64 y) := fun u => YC.out _ (AR.out.trans (hF1 u))
        have DD0 := HU.out _ (Ab.refl wr).drew
        clear hF1 hF2
        refine region_cls E (by kernel_rfl) (by kernel_rfl) DD0 ?_
        repeat (go_big_quiet_step (first | (go_at_call 50; exact calls_cls HU HU1 (L2.out _)) | (with_reducible rfl)))
        refine wpQuiet_nil ?_
        intro v2 hwz
        obtain ⟨u0, hu⟩ := hwz
        have A2 : Hid (Ab wr v2) := by rw [hu]; exact HU1.out u0
        clear hu u0
        clear HU HU1 DD0 y1 y2
        clear E UU
        go_wp2
        go_ret
        exact ⟨by rw [DK.out]; rfl, AR.out.trans A2.out⟩
      | false =>
        rw [d1] at L2
        rw [d1, if_neg (by decide)] at DK
        go_upto_region 10 with fail
        obtain ⟨UU, E, hF1, hF2⟩ := cls wr
        have HU := hid hF2
        have HU1 := hid hF1
        have y1 : ∀ u, (E u).cell? ⟨qb, ob + c, none⟩ = some (.float .f64 x) := fun u => XC.out _ (AR.out.trans (hF1 u))
        have y2 : ∀ u, (E u).cell? ⟨qb, ob + bb, none⟩ = some (.float .f64 y) := fun u => YC.out _ (AR.out.trans (hF1 u))
        have DD0 := HU.out _ (Ab.refl wr).drew
        clear hF1 hF2
        refine region_cls E (by kernel_rfl) (by kernel_rfl) DD0 ?_
        repeat (go_big_quiet_step (first | (go_at_call 50; exact calls_cls HU HU1 (L2.out _)) | (with_reducible rfl)))
        refine wpQuiet_nil ?_
        intro v2 hwz
        obtain ⟨u0, hu⟩ := hwz
        have A2 : Hid (Ab wr v2) := by rw [hu]; exact HU1.out u0
        clear hu u0
        clear HU HU1 DD0 y1 y2
        clear E UU
        go_wp2
        go_ret
        exact ⟨by rw [DK.out]; rfl, AR.out.trans A2.out⟩
/-- WHAT THE REFERENCE'S Down ANSWERS -/
theorem rdown_at (n rb : Nat) (pb : Option Addr) (lb cb : Nat) (B : Nat → Nat) (cell : Int) (w : World) (hn : 1 ≤ n ∧ n ≤ 32) (g : RefOf n rb w) (ib : IsFl w pb lb B) :
    Calls Tryz.prog 16 #[.pointer (some ⟨rb, 0, none⟩), .slice pb lb cb, .int .i64 cell] w fun e w' => e = .returned (.int .i64 (if lb = 6 * n * n ∧ 0 ≤ cell ∧ cell < (6 * n * n : Nat) then dnR n B cell.toNat else -1)) ∧ Below w.heap.size w w' := by
  by_cases hl : lb = 6 * n * n
  · by_cases hc : 0 ≤ cell ∧ cell < (lb : Nat)
    · obtain ⟨c, rfl⟩ : ∃ c : Nat, cell = (c : Nat) := ⟨cell.toNat, by omega⟩
      have hc2 : c < lb := by omega
      rw [if_pos ⟨hl, hc.1, by rw [← hl]; exact hc.2⟩, Int.toNat_natCast]
      obtain ⟨qb, ob, rfl⟩ := ib.some0 (show 0 < lb by omega)
      have nb : lb ≤ 6144 := by
        have h1 : n * n ≤ 32 * 32 := Nat.mul_le_mul hn.2 hn.2
        rw [hl, Nat.mul_assoc]
        omega
      have cc := rCells_at hn g
      rw [← hl] at cc
      exact rdown_go n lb rb qb ob cb B (fun s => bsC n c s) (fun s => bsS n c s) c w nb hc2 g ib cc (fun v s _ hs => rbeside_at n c s v hn (by omega) hs) (fun s hs => by rw [hl]; exact bsC_lt hn.1 (by omega) hs)
    · rw [if_neg (by rw [← hl]; exact fun h => hc h.2)]
      exact rdown_out n rb pb lb cb cell w hn g hl hc
  · rw [if_neg (fun h => hl h.1)]
    exact rdown_len n rb pb lb cb cell w hn g hl
end Rv
end Go.Proofs.YtbibhgikmnpbfaaGreatDoor

namespace Go.Proofs.YtbibhgikmnpbfaaGreatDoor
open Go.RowKit Go.Deep
namespace Sh
theorem wpList_zero {ops : Array Oper} {rest : List Oper} {o : Oper} {a : Act} {w : World} {Q : Exit → Act → World → Prop} (hgd : o.guard = none) (s x : Operand)
    (ho : o.op = .call { callee := .builtin .append, args := #[s, x], argTypes := #[23, 23] })
    (g : Nat) (hs : a.eval s = .slice (some ⟨g, 0, none⟩) 0 0) (src : Value) (hx : a.eval x = src) (hsrc : Src Tryz.prog 1 23 src 0 [] w)
    (h : wpList Tryz.prog ops Q rest (a.put o.dst (.slice (some ⟨g, 0, none⟩) 0 0)) w) : wpList Tryz.prog ops Q (o :: rest) a w := by
  obtain ⟨i0, hi, hz0, hz1, hz2⟩ := info_i
  refine wpList_plain hgd fun _ hK => ?_
  have hr := run_append_room_src (P := Tryz.prog) w 23 23 o.type 2 i0 Tryz.underlying23 hi g 0 0 0 src 0 [] (by rw [hz1]; exact hsrc) (Nat.le_refl _) (fun j hj => absurd hj (Nat.not_lt_zero j)) (fun j hj => absurd hj (Nat.not_lt_zero j))
  unfold Oper.wp execOp
  simp only [ho, resolve, invoke, builtin, Sem.run_bind, Sem.run_pure, Result.andThen_ok, List.map_toArray, List.map_cons, List.map_nil, hs, hx, hr]
  exact hK _ _ h
theorem news_in {w : World} {b o N : Nat} {D : Nat → Int} (h : IsI w (some ⟨b, o, none⟩) N D) : ∀ j u, (((List.range N).map D).map (Value.int .i64))[j]? = some u → w.cell? ((⟨b, o, none⟩ : Addr).add j) = some u := fun j u hu => by
  have hj : j < N := by
    rcases Nat.lt_or_ge j N with h1 | h1
    · exact h1
    · rw [List.getElem?_eq_none (by simpa using h1)] at hu; cases hu
  simp [hj] at hu
  rw [add_off, ← hu]
  exact (h.at0 hj).2.2
end Sh
end Go.Proofs.YtbibhgikmnpbfaaGreatDoor

namespace Go.Proofs.YtbibhgikmnpbfaaGreatDoor
open Go.RowKit Tf Cu Go.Deep
namespace Rv
/-- all blocks of V that are not of P are in w as they were -/
def AbQ (V : World) (P : Nat → Prop) (w : World) : Prop := w.os = V.os ∧ w.tape = V.tape ∧ w.output = V.output ∧ V.heap.size ≤ w.heap.size ∧ ∀ k, k < V.heap.size → ¬ P k → w.heap[k]? = V.heap[k]?
theorem AbQ.refl (V : World) (P : Nat → Prop) : AbQ V P V := ⟨rfl, rfl, rfl, Nat.le_refl _, fun _ _ _ => rfl⟩
theorem AbQ.to {V w w' : World} {P : Nat → Prop} (h : AbQ V P w) (a : Ab w w') : AbQ V P w' := by
  obtain ⟨h1, h2, h3, h4, h5⟩ := h
  exact ⟨a.os.trans h1, a.tape.trans h2, a.output.trans h3, Nat.le_trans h4 a.size, fun k hk hp => (a.block k (by omega)).trans (h5 k hk hp)⟩
theorem AbQ.set {V w : World} {P : Nat → Prop} (h : AbQ V P w) {g k : Nat} (hp : P g ∨ V.heap.size ≤ g) (v : Value) : AbQ V P (w.setCell ⟨g, k, none⟩ v) := by
  obtain ⟨h1, h2, h3, h4, h5⟩ := h
  refine ⟨h1, h2, h3, by simpa [World.setCell] using h4, fun i hi hn => (Below.heap_setCell _ _ _ _ (fun e => ?_)).trans (h5 i hi hn)⟩
  have e2 : i = g := e
  rcases hp with h | h
  · exact hn (by rw [e2]; exact h)
  · omega
theorem AbQ.grown {V wr w' : World} {P : Nat → Prop} {row : Option Nat} (h : AbQ V P wr) (hg : wr.grownBy w' row) (hr : ∀ b, row = some b → P b ∨ V.heap.size ≤ b) : AbQ V P w' := by
  obtain ⟨h1, h2, h3, h4, h5⟩ := h
  refine ⟨hg.os.trans h1, hg.tape.trans h2, hg.output.trans h3, by have := hg.size; omega, fun k hk hn => ?_⟩
  refine (hg.block k (by omega) (fun e => ?_)).trans (h5 k hk hn)
  rcases hr k e.symm with h6 | h6
  · exact hn h6
  · omega
theorem AbQ.ab {w0 V w : World} {P : Nat → Prop} (h : AbQ V P w) (a : Ab w0 V) (hp : ∀ k, k < w0.heap.size → ¬ P k) : Ab w0 w := by
  obtain ⟨h1, h2, h3, h4, h5⟩ := h
  exact ⟨h1.trans a.os, h2.trans a.tape, h3.trans a.output, Nat.le_trans (Below.size a) h4, fun k hk => (h5 k (Nat.lt_of_lt_of_le hk (Below.size a)) (hp k hk)).trans (a.block k hk)⟩
theorem AbQ.isI {V w : World} {P : Nat → Prop} {p : Option Addr} {n : Nat} {f : Nat → Int} (a : AbQ V P w) (h : Sh.IsI V p n f) (hp : ∀ b o, p = some ⟨b, o, none⟩ → ¬ P b) : Sh.IsI w p n f := fun k hk => by
  obtain ⟨h1, b, o, h2, h3, h4⟩ := h k hk
  exact ⟨h1, b, o, h2, Nat.lt_of_lt_of_le h3 a.2.2.2.1, (World.cell?_of_block (a.2.2.2.2 b h3 (hp b o h2))).trans h4⟩
theorem AbQ.isFl {V w : World} {P : Nat → Prop} {p : Option Addr} {n : Nat} {f : Nat → Nat} (a : AbQ V P w) (h : IsFl V p n f) (hp : ∀ b o, p = some ⟨b, o, none⟩ → ¬ P b) : IsFl w p n f := fun k hk => by
  obtain ⟨h1, b, o, h2, h3, h4⟩ := h k hk
  exact ⟨h1, b, o, h2, Nat.lt_of_lt_of_le h3 a.2.2.2.1, (World.cell?_of_block (a.2.2.2.2 b h3 (hp b o h2))).trans h4⟩
/-- a list of the call's own, of whatever kind of whole numbers -/
def OT (t : TypeId) (B : Nat) (v : Value) (l : List Int) (w : World) : Prop := w.ownsRow B t 1 v l.length (l.map (Value.int .i64))
theorem OT.ofN {B : Nat} {v : Value} {l : List Nat} {w : World} (h : OwnN B v l w) : OT 3 B v (l.map fun c => ((c : Nat) : Int)) w := by
  unfold OT
  rw [List.length_map, List.map_map]
  exact h
theorem OT.mono {t : TypeId} {B C : Nat} {v : Value} {l : List Int} {w : World} (h : OT t B v l w) (hc : C ≤ B) : OT t C v l w := by
  rcases h.2 with ⟨q, e⟩ | ⟨g, cap, cur, q, hb, rest⟩
  · exact ⟨h.1, .inl ⟨q, e⟩⟩
  · exact ⟨h.1, .inr ⟨g, cap, cur, q, Nat.le_trans hc hb, rest⟩⟩
theorem OT.val {t : TypeId} {B : Nat} {v : Value} {l : List Int} {w : World} (h : OT t B v l w) : ∃ p cap, v = .slice p l.length cap := by
  rcases h.2 with ⟨q, e⟩ | ⟨g, cap, cur, q, hb, rest⟩
  · exact ⟨none, 0, by rw [q, e]⟩
  · exact ⟨_, cap, q⟩
theorem OT.blk {t : TypeId} {B : Nat} {v : Value} {l : List Int} {w : World} (h : OT t B v l w) {k : Nat} (hk : v.ownBlock = some k) : B ≤ k ∧ k < w.heap.size := World.ownsRow.lt h k hk
theorem OT.at {t : TypeId} {B : Nat} {v : Value} {l : List Int} {w : World} (h : OT t B v l w) {c : Nat} (hc : c < l.length) :
    ∃ g cap, v = .slice (some ⟨g, 0, none⟩) l.length cap ∧ w.cell? ⟨g, c, none⟩ = some (.int .i64 (l.getD c 0)) ∧ w.frozen? ⟨g, c, none⟩ = false ∧ ∀ x, OT t B v (l.set c x) (w.setCell ⟨g, c, none⟩ (.int .i64 x)) := by
  rcases h.2 with ⟨q, e⟩ | ⟨g, cap, cur, q, hb, hg, h1, h2, h3, h4⟩
  · omega
  · have e2 := World.ownsRow.cells (g := g) h (by rw [q]; rfl) c (.int .i64 (l.getD c 0)) (by simp [hc, List.getD])
    rw [Sh.add_off, Nat.zero_add] at e2
    refine ⟨g, cap, q, e2, by simp [World.frozen?, hg], fun x => ⟨by simp, .inr ⟨g, cap, cur.setIfInBounds c (.int .i64 x), by rw [List.length_set]; exact q, hb, one_set hg, by rw [List.length_set]; exact h1, h2, by simpa using h3, ?_⟩⟩⟩
    rw [List.length_set, Array.toList_setIfInBounds, List.take_set, h4, List.map_set]
theorem OT.blkeq {t : TypeId} {B : Nat} {v : Value} {l : List Int} {w w' : World} (h : OT t B v l w) (e : ∀ k, v.ownBlock = some k → w'.heap[k]? = w.heap[k]?) : OT t B v l w' := by
  rcases h.2 with ⟨q, e2⟩ | ⟨g, cap, cur, q, hb, hg, rest⟩
  · exact ⟨h.1, .inl ⟨q, e2⟩⟩
  · exact ⟨h.1, .inr ⟨g, cap, cur, q, hb, (e g (by rw [q]; rfl)).trans hg, rest⟩⟩
theorem OT.grown {t : TypeId} {B : Nat} {v : Value} {l : List Int} {w w' : World} {row : Option Nat} (h : OT t B v l w) (x : w.grownBy w' row) (hg : ∀ k, v.ownBlock = some k → row ≠ some k) : OT t B v l w' := h.blkeq (fun k hk => x.block k (h.blk hk).2 (fun e => hg k hk e.symm))
theorem OT.to {t : TypeId} {B : Nat} {v : Value} {l : List Int} {w w' : World} (h : OT t B v l w) (a : Ab w w') : OT t B v l w' := h.blkeq (fun k hk => a.block k (h.blk hk).2)
theorem OT.isI {t : TypeId} {B : Nat} {v : Value} {l : List Int} {w : World} (h : OT t B v l w) (hl : ∀ x ∈ l, -9223372036854775808 ≤ x ∧ x ≤ 9223372036854775807) : ∃ p cap, v = .slice p l.length cap ∧ Sh.IsI w p l.length (fun j => l.getD j 0) := by
  rcases h.2 with ⟨q, e2⟩ | ⟨g, cap, cur, q, hb, hg, rest⟩
  · exact ⟨none, 0, by rw [q, e2], fun k hk => by omega⟩
  · refine ⟨_, cap, q, fun k hk => ⟨?_, g, 0, rfl, lt_of_block hg, ?_⟩⟩
    · have e : l.getD k 0 = l[k] := by simp [List.getD, hk]
      dsimp only
      rw [e]
      exact hl _ (List.getElem_mem hk)
    · have e := World.ownsRow.cells (g := g) h (by rw [q]; rfl) k (.int .i64 (l.getD k 0)) (by simp [hk, List.getD])
      rw [Sh.add_off] at e
      exact e
theorem infoN : (Tryz.prog.info? 3).map (fun i => (i.zero, i.size, i.bytes)) = some (some (.int .i64 0), 1, 8) := by kernel_rfl
theorem info_n : ∃ i, Tryz.prog.info? 3 = some i ∧ i.zero = some (.int .i64 0) ∧ i.size = 1 ∧ i.bytes = 8 := by
  have h := infoN
  cases e : Tryz.prog.info? 3 with
  | none => rw [e] at h; cases h
  | some i =>
    rw [e] at h
    injection h with h
    injection h with h1 h2
    injection h2 with h2 h3
    exact ⟨i, rfl, h1, h2, h3⟩
theorem wpList_appN {ops : Array Oper} {rest : List Oper} {o : Oper} {a : Act} {w : World} {Q : Exit → Act → World → Prop} (hgd : o.guard = none) (s x : Operand)
    (ho : o.op = .call { callee := .builtin .append, args := #[s, x], argTypes := #[40, 40] })
    (B : Nat) (v : Value) (l : List Int) (hs : a.eval s = v) (hown : OT 3 B v l w)
    (ad : Addr) (m c : Nat) (news : List Int) (hx : a.eval x = .slice (some ad) m c) (hl : news.length = m) (hnews : ∀ j u, (news.map (Value.int .i64))[j]? = some u → w.cell? (ad.add j) = some u)
    (hm : 0 < m) (hlen : l.length + m ≤ 1048576) (hB : B ≤ w.heap.size) (nm : Nat) (hnm : l.length + m = nm)
    (h : ∀ g cap w', OT 3 B (.slice (some ⟨g, 0, none⟩) nm cap) (l ++ news) w' → w.grownBy w' v.ownBlock → (v.ownBlock = some g ∨ g = w.heap.size) → B ≤ g → wpList Tryz.prog ops Q rest (a.put o.dst (.slice (some ⟨g, 0, none⟩) nm cap)) w') : wpList Tryz.prog ops Q (o :: rest) a w := by
  subst hnm
  obtain ⟨i0, hi, hz0, hz1, hz2⟩ := info_n
  refine wpList_append_lies w hgd s x _ ho B 3 i0 (.int .i64 0) 1 8 Tryz.underlying40 hi hz0 hz1 hz2 rfl (by decide) v l.length (l.map (Value.int .i64)) hs hown ad m c (news.map (Value.int .i64)) hx (by simpa using hl) hnews (fun u hu => by
    obtain ⟨y, _, rfl⟩ := List.mem_map.1 hu
    rfl) hm (by unfold maxLen; omega) (by omega) hB _ rfl ?_
  intro g cap w' o1 g1 e1 _
  have hb : B ≤ g := by
    rcases o1.2 with ⟨q, _⟩ | ⟨g2, _, _, q, hb, _⟩
    · cases q
    · injection q with q1 q2 q3
      injection q1 with q4
      injection q4 with q5
      omega
  refine h g cap w' ?_ g1 e1 hb
  unfold OT
  rw [List.length_append, List.map_append, hl]
  exact o1
theorem OT.new {t : TypeId} (w : World) (B : Nat) (hB : B ≤ w.heap.size) : OT t B (.slice (some ⟨w.heap.size, 0, none⟩) 0 0) [] (w.alloc (.cells #[] t)) :=
  ⟨by simp, .inr ⟨w.heap.size, 0, #[], rfl, hB, heap_alloc_new _ _, Nat.le_refl _, by unfold maxLen; omega, by simp, by simp⟩⟩
theorem lt_of_get {w : World} {b : Nat} {o : Obj} (h : w.heap[b]? = some o) : b < w.heap.size := by
  rcases Nat.lt_or_ge b w.heap.size with h1 | h1
  · exact h1
  · rw [Array.getElem?_eq_none h1] at h; cases h
theorem AbQ.heap {V w : World} {P : Nat → Prop} (a : AbQ V P w) {b : Nat} {o : Obj} (h : V.heap[b]? = some o) (hp : ¬ P b) : w.heap[b]? = some o := (a.2.2.2.2 b (lt_of_get h) hp).trans h
end Rv
end Go.Proofs.YtbibhgikmnpbfaaGreatDoor
