/-
  Some of the texts of this proof, one behind the other.
-/
import Derived.Deep.QuietTactic
import Derived.Test.YtkckcohemalhiaaGreatDoorRa08
namespace Go.Proofs.YtkckcohemalhiaaGreatDoor
open Go.RowKit Tf Cu Go.Deep
attribute [local go_sem] run_bits run_from raw_feq raw_fne raw_flt raw_fgt run_neg run_store_float
namespace Rv
set_option maxRecDepth 100000 in
set_option maxHeartbeats 64000000 in
theorem lake19_at {gb : Nat} (w : World) (g : GridOf 1 gb w) :
    Calls Tryz.prog 25 #[.pointer (some ⟨gb, 0, none⟩)] w fun e w' => ∃ b1 b2 b3 b4, e = .returned (.agg #[.slice (some ⟨b1, 0, none⟩) 6 6, .slice (some ⟨b2, 0, none⟩) 6 6, .slice (some ⟨b3, 0, none⟩) 6 6, .slice (some ⟨b4, 0, none⟩) 12 12, .int .i64 0, .int .i64 0]) ∧ Below w.heap.size w w' ∧ w'.rowIs b1 40 6 (fun _ => .float .f64 0) ∧ w'.rowIs b2 2 6 (fun i => .int .i64 (lkW i)) ∧ w'.rowIs b3 2 6 (fun _ => .int .i64 0) ∧ w'.rowIs b4 40 12 (fun _ => .float .f64 0) ∧ ((w.heap.size ≤ b1 ∧ w.heap.size ≤ b2 ∧ w.heap.size ≤ b3 ∧ w.heap.size ≤ b4) ∧ b1 ≠ b2 ∧ b1 ≠ b4 ∧ b2 ≠ b4 ∧ b3 ≠ b4 ∧ b3 ≠ b2) := by
  have CC : Hid (∀ v, Ab w v → Calls Tryz.prog 13 #[.pointer (some ⟨gb, 0, none⟩)] v fun e w' => e = .returned (.int .i64 6) ∧ w' = v) := fun v hv => gCells_at (g.to hv)
  have CE : Hid (∀ v, Ab w v → Calls Tryz.prog 61 #[.pointer (some ⟨gb, 0, none⟩)] v fun e w' => e = .returned (.int .i64 12) ∧ w' = v) := fun v hv => gEdges_at (g.to hv)
  have M1 : ∀ v : World, (Instr.makeSlice 22 (.int .i64 6) (.int .i64 6)).run Tryz.prog v = .ok (.slice (some ⟨v.heap.size, 0, none⟩) 6 6) (v.alloc (Obj.cells (madeCells #[.float .f64 0] 6) 40)) := fun v => by
    exact run_make_row' (P := Tryz.prog) 22 40 (.float .f64 0) 8 Tryz.underlying22 infoF64 rfl .i64 .i64 6 (by omega) (by omega) v
  have M2 : ∀ v : World, (Instr.makeSlice 23 (.int .i64 6) (.int .i64 6)).run Tryz.prog v = .ok (.slice (some ⟨v.heap.size, 0, none⟩) 6 6) (v.alloc (Obj.cells (madeCells #[.int .i64 0] 6) 2)) := fun v => by
    exact run_make_row' (P := Tryz.prog) 23 2 (.int .i64 0) 8 Tryz.underlying23 info64 rfl .i64 .i64 6 (by omega) (by omega) v
  have M3 : ∀ v : World, (Instr.makeSlice 22 (.int .i64 12) (.int .i64 12)).run Tryz.prog v = .ok (.slice (some ⟨v.heap.size, 0, none⟩) 12 12) (v.alloc (Obj.cells (madeCells #[.float .f64 0] 12) 40)) := fun v => by
    exact run_make_row' (P := Tryz.prog) 22 40 (.float .f64 0) 8 Tryz.underlying22 infoF64 rfl .i64 .i64 12 (by omega) (by omega) v
  have AL : ∀ v : World, (Instr.alloc 25 true (.tuple #[])).run Tryz.prog v = .ok (.pointer (some ⟨v.heap.size, 0, none⟩)) (v.alloc (.cells #[.slice none 0 0, .slice none 0 0, .slice none 0 0, .slice none 0 0, .int .i64 0, .int .i64 0] 25)) := fun v => by
    simp [go_sem]
  have A0 : Hid (Ab w (w.alloc (.cells #[.slice none 0 0, .slice none 0 0, .slice none 0 0, .slice none 0 0, .int .i64 0, .int .i64 0] 25))) := bl1 _ _
  go_enter Tryz.func25, Tryz.ntmps25
  go_wp2_with fail
  refine (CC.out _ A0.out).mono ?_
  rintro e9 vq ⟨rfl, hvq⟩
  have hvq2 := hvq.symm
  subst hvq2
  go_wp2_with fail
  refine (CE.out _ A0.out).mono ?_
  rintro e9 vq ⟨rfl, hvq⟩
  have hvq2 := hvq.symm
  subst hvq2
  go_upto_region 4 with fail
  generalize hW : World.alloc w _ = W at *
  go_cut [4] from 22 to 31 (fun s4 wx => ∃ g4 b1 b2 b3 b4, s4 = .pointer (some ⟨g4, 0, none⟩) ∧ Ab W wx ∧ wx.heap[g4]? = some (.cells #[.slice (some ⟨b1, 0, none⟩) 6 6, .slice (some ⟨b2, 0, none⟩) 6 6, .slice (some ⟨b3, 0, none⟩) 6 6, .slice (some ⟨b4, 0, none⟩) 12 12, .int .i64 0, .int .i64 0] 25) ∧ wx.heap[b1]? = some (Obj.cells (madeCells #[.float .f64 0] 6) 40) ∧ wx.heap[b2]? = some (Obj.cells (madeCells #[.int .i64 0] 6) 2) ∧ wx.heap[b3]? = some (Obj.cells (madeCells #[.int .i64 0] 6) 2) ∧ wx.heap[b4]? = some (Obj.cells (madeCells #[.float .f64 0] 12) 40) ∧ W.heap.size ≤ g4 ∧ W.heap.size ≤ b1 ∧ W.heap.size ≤ b2 ∧ W.heap.size ≤ b3 ∧ W.heap.size ≤ b4 ∧ g4 ≠ b1 ∧ g4 ≠ b2 ∧ g4 ≠ b3 ∧ g4 ≠ b4 ∧ b1 ≠ b2 ∧ b1 ≠ b3 ∧ b1 ≠ b4 ∧ b2 ≠ b3 ∧ b2 ≠ b4 ∧ b3 ≠ b4)
  case first =>
    obtain ⟨UU, E, hF1, hF2⟩ := cls W.drew
    have HU := hid hF2
    clear hF1 hF2
    refine region_free 11 (fun k => if k = 1 then some ((Obj.cells (madeCells #[.float .f64 0] 6) 40), fun b => .slice (some ⟨b, 0, none⟩) 6 6) else if k = 3 then some ((Obj.cells (madeCells #[.int .i64 0] 6) 2), fun b => .slice (some ⟨b, 0, none⟩) 6 6) else if k = 5 then some ((Obj.cells (madeCells #[.int .i64 0] 6) 2), fun b => .slice (some ⟨b, 0, none⟩) 6 6) else if k = 8 then some ((Obj.cells (madeCells #[.float .f64 0] 12) 40), fun b => .slice (some ⟨b, 0, none⟩) 12 12) else if k = 10 then some ((.cells #[.slice none 0 0, .slice none 0 0, .slice none 0 0, .slice none 0 0, .int .i64 0, .int .i64 0] 25), fun b => .pointer (some ⟨b, 0, none⟩)) else none) (by kernel_rfl) (by kernel_rfl) (by kernel_rfl) ?_
    simp only [List.take_succ_cons, List.take_zero]
    refine wpFree_one HU (by rfl) (by rfl) ?_
    go_big_quiet_step (with_reducible rfl)
    refine wpQuiet_nil ?_
    refine wpFree_lay (ob := (Obj.cells (madeCells #[.float .f64 0] 6) 40)) (mk := fun b => .slice (some ⟨b, 0, none⟩) 6 6) (by rfl) (by kernel_rfl) ?_ ?_
    · refine lay_make (vx := .int .i64 6) (vy := .int .i64 6) (ob := (Obj.cells (madeCells #[.float .f64 0] 6) 40)) (mk := fun b => .slice (some ⟨b, 0, none⟩) 6 6) rfl ?_ ?_ ?_
      · rfl
      · rfl
      · exact M1
    intro b1 fb1
    simp only [Act.put, List.setIfInBounds_toArray, List.set_cons_succ, List.set_cons_zero]
    refine wpFree_one HU (by rfl) (by rfl) ?_
    go_big_quiet_step (with_reducible rfl)
    refine wpQuiet_nil ?_
    refine wpFree_lay (ob := (Obj.cells (madeCells #[.int .i64 0] 6) 2)) (mk := fun b => .slice (some ⟨b, 0, none⟩) 6 6) (by rfl) (by kernel_rfl) ?_ ?_
    · refine lay_make (vx := .int .i64 6) (vy := .int .i64 6) (ob := (Obj.cells (madeCells #[.int .i64 0] 6) 2)) (mk := fun b => .slice (some ⟨b, 0, none⟩) 6 6) rfl ?_ ?_ ?_
      · rfl
      · rfl
      · exact M2
    intro b2 fb2
    simp only [Act.put, List.setIfInBounds_toArray, List.set_cons_succ, List.set_cons_zero]
    refine wpFree_one HU (by rfl) (by rfl) ?_
    go_big_quiet_step (with_reducible rfl)
    refine wpQuiet_nil ?_
    refine wpFree_lay (ob := (Obj.cells (madeCells #[.int .i64 0] 6) 2)) (mk := fun b => .slice (some ⟨b, 0, none⟩) 6 6) (by rfl) (by kernel_rfl) ?_ ?_
    · refine lay_make (vx := .int .i64 6) (vy := .int .i64 6) (ob := (Obj.cells (madeCells #[.int .i64 0] 6) 2)) (mk := fun b => .slice (some ⟨b, 0, none⟩) 6 6) rfl ?_ ?_ ?_
      · rfl
      · rfl
      · exact M2
    intro b3 fb3
    simp only [Act.put, List.setIfInBounds_toArray, List.set_cons_succ, List.set_cons_zero]
    refine wpFree_one HU (by rfl) (by rfl) ?_
    go_big_quiet_step (with_reducible rfl)
    refine wpQuiet_nil ?_
    refine wpFree_one HU (by rfl) (by rfl) ?_
    go_big_quiet_step (with_reducible rfl)
    refine wpQuiet_nil ?_
    refine wpFree_lay (ob := (Obj.cells (madeCells #[.float .f64 0] 12) 40)) (mk := fun b => .slice (some ⟨b, 0, none⟩) 12 12) (by rfl) (by kernel_rfl) ?_ ?_
    · refine lay_make (vx := .int .i64 12) (vy := .int .i64 12) (ob := (Obj.cells (madeCells #[.float .f64 0] 12) 40)) (mk := fun b => .slice (some ⟨b, 0, none⟩) 12 12) rfl ?_ ?_ ?_
      · rfl
      · rfl
      · exact M3
    intro b4 fb4
    simp only [Act.put, List.setIfInBounds_toArray, List.set_cons_succ, List.set_cons_zero]
    refine wpFree_one HU (by rfl) (by rfl) ?_
    go_big_quiet_step (with_reducible rfl)
    refine wpQuiet_nil ?_
    refine wpFree_lay (ob := (.cells #[.slice none 0 0, .slice none 0 0, .slice none 0 0, .slice none 0 0, .int .i64 0, .int .i64 0] 25)) (mk := fun b => .pointer (some ⟨b, 0, none⟩)) (by rfl) (by kernel_rfl) ?_ ?_
    · refine lay_alloc (ob := (.cells #[.slice none 0 0, .slice none 0 0, .slice none 0 0, .slice none 0 0, .int .i64 0, .int .i64 0] 25)) (mk := fun b => .pointer (some ⟨b, 0, none⟩)) rfl ?_
      · exact AL
    intro g4 fg4
    simp only [Act.put, List.setIfInBounds_toArray, List.set_cons_succ, List.set_cons_zero]

    refine wpFree_nil ?_
    intro wz hz
    have h1 := hz.at (i := 1) (b := b1) (ob := (Obj.cells (madeCells #[.float .f64 0] 6) 40)) (by rfl) (by rfl)
    have h2 := hz.at (i := 3) (b := b2) (ob := (Obj.cells (madeCells #[.int .i64 0] 6) 2)) (by rfl) (by rfl)
    have h3 := hz.at (i := 5) (b := b3) (ob := (Obj.cells (madeCells #[.int .i64 0] 6) 2)) (by rfl) (by rfl)
    have h4 := hz.at (i := 8) (b := b4) (ob := (Obj.cells (madeCells #[.float .f64 0] 12) 40)) (by rfl) (by rfl)
    have h5 := hz.at (i := 10) (b := g4) (ob := (.cells #[.slice none 0 0, .slice none 0 0, .slice none 0 0, .slice none 0 0, .int .i64 0, .int .i64 0] 25)) (by rfl) (by rfl)
    have n12 : b1 ≠ b2 := fb2.2 1 b1 (by rfl)
    have n13 : b1 ≠ b3 := fb3.2 1 b1 (by rfl)
    have n14 : b1 ≠ b4 := fb4.2 1 b1 (by rfl)
    have n15 : b1 ≠ g4 := fg4.2 1 b1 (by rfl)
    have n23 : b2 ≠ b3 := fb3.2 3 b2 (by rfl)
    have n24 : b2 ≠ b4 := fb4.2 3 b2 (by rfl)
    have n25 : b2 ≠ g4 := fg4.2 3 b2 (by rfl)
    have n34 : b3 ≠ b4 := fb4.2 5 b3 (by rfl)
    have n35 : b3 ≠ g4 := fg4.2 5 b3 (by rfl)
    have n45 : b4 ≠ g4 := fg4.2 8 b4 (by rfl)
    have AZ : Ab W wz := (Ab.refl W).drew.trans hz.1
    have RZ := hid h5.1
    have HH := hid (And.intro h1 (And.intro h2 (And.intro h3 (And.intro h4 h5))))
    have NN := hid (And.intro n12 (And.intro n13 (And.intro n14 (And.intro n15 (And.intro n23 (And.intro n24 (And.intro n25 (And.intro n34 (And.intro n35 n45)))))))))
    have HAZ := hid AZ
    clear hz fb1 fb2 fb3 fb4 fg4 h1 h2 h3 h4 h5 n12 n13 n14 n15 n23 n24 n25 n34 n35 n45 AZ HU
    clear E UU
    have t0 := cell_of_row _ _ 0 _ _ _ RZ.out
    have t1 := cell_of_row _ _ 1 _ _ _ RZ.out
    have t2 := cell_of_row _ _ 2 _ _ _ RZ.out
    have t3 := cell_of_row _ _ 3 _ _ _ RZ.out
    have t4 := cell_of_row _ _ 4 _ _ _ RZ.out
    have t5 := cell_of_row _ _ 5 _ _ _ RZ.out
    have f0 := free_row RZ.out 0
    have f1 := free_row RZ.out 1
    have f2 := free_row RZ.out 2
    have f3 := free_row RZ.out 3
    have f4 := free_row RZ.out 4
    have f5 := free_row RZ.out 5
    simp only [List.drop_succ_cons, List.drop_zero]
    go_wp2_with fail
    go_meet
    obtain ⟨⟨k1, l1⟩, ⟨k2, l2⟩, ⟨k3, l3⟩, ⟨k4, l4⟩, ⟨k5, l5⟩⟩ := HH.out
    obtain ⟨n12, n13, n14, n15, n23, n24, n25, n34, n35, n45⟩ := NN.out
    have st : ∀ (b : Nat) (o : Obj), b ≠ g4 → wz.heap[b]? = some o → ∀ x0 x1 x2 x3 x4 x5, ((((((wz.setCell ⟨g4, 0, none⟩ x0).setCell ⟨g4, 1, none⟩ x1).setCell ⟨g4, 2, none⟩ x2).setCell ⟨g4, 3, none⟩ x3).setCell ⟨g4, 4, none⟩ x4).setCell ⟨g4, 5, none⟩ x5).heap[b]? = some o := fun b o hb h x0 x1 x2 x3 x4 x5 => by
      rw [heap_set_ne hb, heap_set_ne hb, heap_set_ne hb, heap_set_ne hb, heap_set_ne hb, heap_set_ne hb]
      exact h
    refine ⟨g4, b1, b2, b3, b4, rfl, ?_, row6 k5, st b1 _ n15 k1 _ _ _ _ _ _, st b2 _ n25 k2 _ _ _ _ _ _, st b3 _ n35 k3 _ _ _ _ _ _, st b4 _ n45 k4 _ _ _ _ _ _, l5, l1, l2, l3, l4, Ne.symm n15, Ne.symm n25, Ne.symm n35, Ne.symm n45, n12, n13, n14, n23, n24, n34⟩
    exact (((((HAZ.out.setk l5 _).setk l5 _).setk l5 _).setk l5 _).setk l5 _).setk l5 _
  case rest =>
    obtain ⟨g4, b1, b2, b3, b4, rfl, a4, r4, m1, m2, m3, m4, l5, l1, l2, l3, l4, n51, n52, n53, n54, n12, n13, n14, n23, n24, n34⟩ := hcut
    obtain ⟨gd, hgd⟩ : ∃ x, w.heap.size = x := ⟨_, rfl⟩
    have HL : Hid (gd + 1 ≤ b1 ∧ gd + 1 ≤ b2 ∧ gd + 1 ≤ b3 ∧ gd + 1 ≤ b4 ∧ gd + 1 ≤ g4) := by
      rw [← hW, size1] at l1 l2 l3 l4 l5
      rw [← hgd]
      exact ⟨l1, l2, l3, l4, l5⟩
    have NN : Hid (g4 ≠ b2 ∧ b1 ≠ b2 ∧ b3 ≠ b2 ∧ b4 ≠ b2 ∧ b1 ≠ b4 ∧ b3 ≠ b4) := ⟨n52, n12, Ne.symm n23, Ne.symm n24, n14, n34⟩
    have ZR : Hid (W.heap[gd]? = some (.cells #[.slice none 0 0, .slice none 0 0, .slice none 0 0, .slice none 0 0, .int .i64 0, .int .i64 0] 25)) := by rw [← hW, ← hgd]; exact heap_alloc_new _ _
    have AWW : Hid (Ab w W) := A0.out
    have FI := hid (show LkI w gd g4 b1 b2 b3 b4 0 wc from ⟨AWW.out.trans a4, r4, Ab.heap a4 ZR.out, made_row m1, (made_row m2).congr (fun i _ => by simp), made_row m3, made_row m4⟩)
    have HG := hid g
    have HN : Hid (w.heap.size = gd) := hgd
    rw [hgd]
    clear a4 r4 m1 m2 m3 m4 l1 l2 l3 l4 l5 n51 n52 n53 n54 n12 n13 n14 n23 n24 n34 hgd hW ZR AWW g CC CE M1 M2 M3 AL A0
    go_wp2
    go_loopw [5] (fun iv wr => ∃ c : Nat, c ≤ 6 ∧ iv = .int .i64 (c : Nat) ∧ LkI w gd g4 b1 b2 b3 b4 c wr) (fun iv _ => 6 - (intOf iv).toNat)
    case atStart => exact ⟨0, by omega, rfl, FI.out⟩
    case round =>
      obtain ⟨c, hc, rfl, F⟩ := hrel
      clear FI
      have FF := hid F
      clear F
      by_cases hc6 : c < 6
      · have hc' : (c : Int) < 6 := by omega
        have HC6 := hid hc6
        have AR : Hid (∀ v, Ab w v → Calls Tryz.prog 18 #[.pointer (some ⟨gb, 0, none⟩), .int .i64 (c : Nat)] v fun e w' => e = .returned (.int .i64 1431655765) ∧ Below v.heap.size v w') := fun v hv => by
          have h := gArea_ok (n := 1) (by decide) hc6 (HG.out.to hv)
          rwa [ar13 c hc6] at h
        clear hc6
        go_upto_region 8 with fail
        obtain ⟨UU, E, hF1, hF2⟩ := cls wr
        have HU := hid hF2
        have HU1 := hid hF1
        have x1 : ∀ u, (E u).cell? ⟨g4, 1, none⟩ = some (.slice (some ⟨b2, 0, none⟩) 6 6) := fun u => cell_of_row _ _ 1 _ _ _ (FF.out.to (hF1 u)).2.1
        have HX : Hid (∀ u, Ab w (E u)) := fun u => (FF.out.to (hF1 u)).1
        have DD0 := HU.out _ (Ab.refl wr).drew
        clear hF1 hF2
        refine region_tail 7 E (by kernel_rfl) (by kernel_rfl) (by kernel_rfl) DD0 ?_
        simp only [List.take_succ_cons, List.take_zero, List.drop_succ_cons, List.drop_zero]
        repeat (go_big_quiet_step (first
          | (with_reducible rfl)
          | (go_at_call 18; exact calls_cls HU HU1 (AR.out _ (HX.out _)))))
        refine wpQuiet_nil ?_
        intro vz hwz
        obtain ⟨u0, hu⟩ := hwz
        have AZ : Hid (Ab wr vz) := by rw [hu]; exact HU1.out u0
        clear hu u0
        clear HU HU1 HX DD0 x1
        clear E UU
        have FZ := hid (FF.out.to AZ.out)
        have z1 := FZ.out.2.2.2.2.1.cell HC6.out
        have z2 := FZ.out.2.2.2.2.1.frozen c
        go_upto_region 9 with fail
        have F2 := hid (FZ.out.set NN.out HL.out c 1431655765 (by rw [HN.out]; exact Nat.le_refl _))
        clear z1 z2 FZ FF AZ
        generalize World.setCell vz _ _ = v2 at *
        by_cases c1 : c = 1
        · subst c1
          have y1 := cell_of_row _ _ 1 _ _ _ F2.out.2.1
          have p1 : v2.cell? ⟨b2, 1, none⟩ = some (.int .i64 1431655765) := by rw [F2.out.2.2.2.2.1.cell HC6.out]; simp
          have p2 := F2.out.2.2.2.2.1.frozen 1
          go_upto_region 10 with fail
          clear y1 p1 p2
          obtain ⟨UU, E, hF1, hF2⟩ := cls v2
          have HU := hid hF2
          have HU1 := hid hF1
          have x1 : ∀ u, (E u).cell? ⟨g4, 1, none⟩ = some (.slice (some ⟨b2, 0, none⟩) 6 6) := fun u => cell_of_row _ _ 1 _ _ _ ((hF1 u).heap F2.out.2.1)
          have x2 : ∀ u, (E u).cell? ⟨b2, 1, none⟩ = some (.int .i64 1431655765) := fun u => by rw [(rowIs.ab F2.out.2.2.2.2.1 (hF1 u)).cell HC6.out]; simp
          have DD0 := HU.out _ (Ab.refl v2).drew
          clear hF1 hF2
          refine region_tail 10 E (by kernel_rfl) (by kernel_rfl) (by kernel_rfl) DD0 ?_
          simp only [List.take_succ_cons, List.take_zero, List.drop_succ_cons, List.drop_zero]
          repeat (go_big_quiet_step (with_reducible rfl))
          refine wpQuiet_nil ?_
          intro vz hwz
          obtain ⟨u0, hu⟩ := hwz
          have AZ : Hid (Ab v2 vz) := by rw [hu]; exact HU1.out u0
          clear hu u0
          clear HU HU1 DD0 x1 x2
          clear E UU
          have F3 := hid (F2.out.to2 AZ.out)
          have z1 := F3.out.2.2.2.2.1.cell HC6.out
          have z2 := F3.out.2.2.2.2.1.frozen 1
          go_wp2
          refine ⟨⟨2, by omega, by simp, ?_⟩, by simp [intOf]⟩
          exact (F3.out.set NN.out HL.out 1 2863311530 (by rw [HN.out]; exact Nat.le_refl _)).fin (fun i => by
            by_cases e : i = 1
            · simp [e, lkW]
            · by_cases e2 : i < 1
              · have : i < 2 := by omega
                simp [e, e2, this]
              · have : ¬ i < 2 := by omega
                simp [e, e2, this])
        · have c2 : ((c : Int) == 1) = false := by rw [beq_eq_false_iff_ne]; omega
          go_wp2
          refine ⟨⟨c + 1, by have := HC6.out; omega, by simp, ?_⟩, by simp [intOf]; have := HC6.out; omega⟩
          exact F2.out.fin (fun i => by
            by_cases e : i = c
            · subst e
              simp [lkW, c1]
            · by_cases l : i < c
              · simp [e, l, show i < c + 1 by omega]
              · simp [e, l, show ¬ i < c + 1 by omega])
      · have e6 : c = 6 := by omega
        subst e6
        have s0 := cell_of_row _ _ 0 _ _ _ FF.out.2.1
        have s1 := cell_of_row _ _ 1 _ _ _ FF.out.2.1
        have s2 := cell_of_row _ _ 2 _ _ _ FF.out.2.1
        have s3 := cell_of_row _ _ 3 _ _ _ FF.out.2.1
        have s4 := cell_of_row _ _ 4 _ _ _ FF.out.2.1
        have s5 := cell_of_row _ _ 5 _ _ _ FF.out.2.1
        have RZ := FF.out.2.2.1
        have t0 := cell_of_row _ _ 0 _ _ _ RZ
        have t1 := cell_of_row _ _ 1 _ _ _ RZ
        have t2 := cell_of_row _ _ 2 _ _ _ RZ
        have t3 := cell_of_row _ _ 3 _ _ _ RZ
        have t4 := cell_of_row _ _ 4 _ _ _ RZ
        have t5 := cell_of_row _ _ 5 _ _ _ RZ
        have f0 := free_row RZ 0
        have f1 := free_row RZ 1
        have f2 := free_row RZ 2
        have f3 := free_row RZ 3
        have f4 := free_row RZ 4
        have f5 := free_row RZ 5
        have ROW := hid (row6 (x := .slice (some ⟨b1, 0, none⟩) 6 6) (y := .slice (some ⟨b2, 0, none⟩) 6 6) (z := .slice (some ⟨b3, 0, none⟩) 6 6) (p := .slice (some ⟨b4, 0, none⟩) 12 12) (q := .int .i64 0) (r := .int .i64 0) RZ)
        clear RZ
        go_wp2
        have BN : Hid (b1 ≠ gd ∧ b2 ≠ gd ∧ b3 ≠ gd ∧ b4 ≠ gd) := by
          have := HL.out
          exact ⟨by omega, by omega, by omega, by omega⟩
        have G1 := FF.out.2.2.2.1
        have G2 := FF.out.2.2.2.2.1
        have G3 := FF.out.2.2.2.2.2.1
        have G4 := FF.out.2.2.2.2.2.2
        have GA := FF.out.1
        refine bodyPost_ret ?_ rfl ⟨b1, b2, b3, b4, rfl, ?_, ?_, ?_, ?_, ?_, ?_⟩
        · exact results_cell_row Tryz.results25 _ _ gd _ _ (0, 0) _ rfl ROW.out Tryz.underlying25 rfl (by kernel_rfl)
        · exact (((((GA.setk (by rw [HN.out]; omega) _).setk (by rw [HN.out]; omega) _).setk (by rw [HN.out]; omega) _).setk (by rw [HN.out]; omega) _).setk (by rw [HN.out]; omega) _).setk (by rw [HN.out]; omega) _
        · exact (((((G1.setOther BN.out.1 _).setOther BN.out.1 _).setOther BN.out.1 _).setOther BN.out.1 _).setOther BN.out.1 _).setOther BN.out.1 _
        · exact ((((((G2.congr (fun i hi => by simp [hi])).setOther BN.out.2.1 _).setOther BN.out.2.1 _).setOther BN.out.2.1 _).setOther BN.out.2.1 _).setOther BN.out.2.1 _).setOther BN.out.2.1 _
        · exact (((((G3.setOther BN.out.2.2.1 _).setOther BN.out.2.2.1 _).setOther BN.out.2.2.1 _).setOther BN.out.2.2.1 _).setOther BN.out.2.2.1 _).setOther BN.out.2.2.1 _
        · exact (((((G4.setOther BN.out.2.2.2 _).setOther BN.out.2.2.2 _).setOther BN.out.2.2.2 _).setOther BN.out.2.2.2 _).setOther BN.out.2.2.2 _).setOther BN.out.2.2.2 _
        · have := HL.out
          exact ⟨⟨by rw [HN.out]; omega, by rw [HN.out]; omega, by rw [HN.out]; omega, by rw [HN.out]; omega⟩, NN.out.2.1, NN.out.2.2.2.2.1, Ne.symm NN.out.2.2.2.1, NN.out.2.2.2.2.2, NN.out.2.2.1⟩
end Rv
end Go.Proofs.YtkckcohemalhiaaGreatDoor

namespace Go.Proofs.YtkckcohemalhiaaGreatDoor
open Go.RowKit Tf Cu Go.Deep
attribute [local go_sem] run_bits run_from raw_feq raw_fne raw_flt raw_fgt run_neg run_store_float
namespace Rv
set_option maxRecDepth 100000 in
set_option maxHeartbeats 16000000 in
theorem less19_at (a b : Nat) (w : World) (ha : a < 18446744073709551616) (hb : b < 18446744073709551616) :
    Calls Tryz.prog 15 #[.float .f64 a, .float .f64 b] w fun e w' => e = .returned (.bool (decide (kb a < kb b))) ∧ Below w.heap.size w w' := by
  obtain ⟨x, hx⟩ : ∃ x, canonB a = x := ⟨_, rfl⟩
  obtain ⟨y, hy⟩ : ∃ x, canonB b = x := ⟨_, rfl⟩
  have C1 := hid (canon_at a x w ha hx)
  have C2 := hid (canon_at b y w hb hy)
  have lx : x < 18446744073709551616 := by rw [← hx]; exact canon_lt ha
  have ly : y < 18446744073709551616 := by rw [← hy]; exact canon_lt hb
  obtain ⟨o, ho⟩ : ∃ o, orderB x y = o := ⟨_, rfl⟩
  have O := hid (ord_at x y o w lx ly ho)
  have E : Hid (decide (o < 0) = decide (kb a < kb b)) := by
    show _ = _
    have h := orderB_lt x y
    rw [ho] at h
    unfold kb
    rw [hx, hy]
    exact decide_eq_decide.2 h
  clear ho hx hy ha hb lx ly
  go_enter Tryz.func15, Tryz.ntmps15
  go_wp2_with fail
  refine C1.out.mono ?_
  rintro e9 v9 ⟨rfl, hv9⟩
  have hv8 := hv9.symm
  subst hv8
  go_wp2_with fail
  refine C2.out.mono ?_
  rintro e9 v9 ⟨rfl, hv9⟩
  have hv8 := hv9.symm
  subst hv8
  go_wp2_with fail
  refine O.out.mono ?_
  rintro e9 v9 ⟨rfl, hv9⟩
  have hv8 := hv9.symm
  subst hv8
  go_wp2
  go_ret
  exact ⟨by rw [← E.out]; rfl, Below.refl _ _⟩
set_option maxRecDepth 100000 in
set_option maxHeartbeats 4000000 in
theorem numbers19_at (pa pb : Option Addr) (len ca cb : Nat) (xs : Nat → Int) (w : World) (hl : len ≤ 281474976710656) (hA : Sh.IsI w pa len xs) (hB : Sh.IsI w pb len xs) :
    Calls Tryz.prog 23 #[.slice pa len ca, .slice pb len cb] w fun e w' => e = .returned (.bool true) ∧ Below w.heap.size w w' := by
  have HA := hid hA
  have HB := hid hB
  have HL := hid hl
  clear hA hB hl
  go_enter Tryz.func23, Tryz.ntmps23
  go_wp2
  go_loopw [5] (fun iv wr => ∃ c : Nat, c ≤ len ∧ iv = .int .i64 (c : Nat) ∧ Ab w wr) (fun iv _ => len - (intOf iv).toNat)
  case atStart => exact ⟨0, by omega, rfl, Ab.refl w⟩
  case round =>
    obtain ⟨c, hc, rfl, ar⟩ := hrel
    have AR := hid ar
    clear ar
    by_cases h : c < len
    · have HC := hid h
      obtain ⟨x, hx⟩ : ∃ x, xs c = x := ⟨_, rfl⟩
      obtain ⟨-, b1, o1, e1, l1, c1⟩ := HA.out c h
      obtain ⟨-, b2, o2, e2, l2, c2⟩ := HB.out c h
      rw [hx] at c1 c2
      have C1 := hid c1
      have C2 := hid c2
      have L1 := hid l1
      have L2 := hid l2
      have hcI : (c : Int) < len := by omega
      have hcB : (c : Int) ≤ 281474976710656 := by have := HL.out; omega
      clear c1 c2 l1 l2 hx h
      subst e1 e2
      go_upto_region 6 with fail
      obtain ⟨UU, E, hF1, hF2⟩ := cls wr
      have HU := hid hF2
      have HU1 := hid hF1
      have x1 : ∀ u, (E u).cell? ⟨b1, o1 + c, none⟩ = some (.int .i64 x) := fun u => (Below.cell (AR.out.trans (hF1 u)) L1.out).trans C1.out
      have x2 : ∀ u, (E u).cell? ⟨b2, o2 + c, none⟩ = some (.int .i64 x) := fun u => (Below.cell (AR.out.trans (hF1 u)) L2.out).trans C2.out
      have DD0 := HU.out _ (Ab.refl wr).drew
      clear hF1 hF2
      refine region_cls E (by kernel_rfl) (by kernel_rfl) DD0 ?_
      repeat (go_big_quiet_step (with_reducible rfl))
      refine wpQuiet_nil ?_
      intro z hwz
      obtain ⟨u0, hu⟩ := hwz
      have AZ : Hid (Ab w z) := by rw [hu]; exact AR.out.trans (HU1.out u0)
      clear hu u0
      clear HU HU1 DD0 x1 x2
      clear E UU
      go_wp2
      go_roundw
      case rel => exact ⟨c + 1, by have := HC.out; omega, by simp, AZ.out⟩
      case measure => simp [intOf]; have := HC.out; omega
    · have e : len = c := by omega
      subst e
      go_wp2
      go_ret
      exact ⟨rfl, AR.out⟩
theorem OwnN.in {B : Nat} {v : Value} {l : List Nat} {w : World} (h : OwnN B v l w) (hl : ∀ x ∈ l, x ≤ 9223372036854775807) : ∃ a0 cap, v = .slice a0 l.length cap ∧ Sh.IsI w a0 l.length (fun j => ((l.getD j 0 : Nat) : Int)) := by
  rcases h.2 with ⟨rfl, h0⟩ | ⟨g, cap, cur, rfl, hb, hg, h1, h2, h3, h4⟩
  · exact ⟨none, 0, by rw [h0], fun k hk => by omega⟩
  · refine ⟨some ⟨g, 0, none⟩, cap, rfl, fun k hk => ?_⟩
    have hx : l.getD k 0 = l[k] := by simp [List.getD, hk]
    have := hl _ (List.getElem_mem hk)
    refine ⟨by dsimp only; rw [hx]; omega, g, 0, rfl, lt_of_block hg, ?_⟩
    have e := h.cells (g := g) rfl k (.int .i64 ((l.getD k 0 : Nat) : Int)) (by simp [hk])
    rw [Sh.add_off] at e
    exact e
end Rv
end Go.Proofs.YtkckcohemalhiaaGreatDoor

namespace Go.Proofs.YtkckcohemalhiaaGreatDoor
open Go.RowKit Tf Cu Go.Deep
attribute [local go_sem] run_bits run_from raw_feq raw_fne raw_flt raw_fgt run_neg run_store_float
namespace Rv
/-- beds, waters and tracers of the test of life -/
def lvB (i : Nat) : Nat := if i = 0 then 4617315517961601024 else if i = 1 then 4616189618054758400 else if i = 2 then 4613937818241073152 else if i = 3 then 4611686018427387904 else if i = 4 then 4607182418800017408 else 0
def lvW (i : Nat) : Int := if i = 0 then 100 else 0
def lvT (i : Nat) : Int := if i = 0 then 10 else 0
def lvO (i : Nat) : Nat := if i = 0 then 4607182418800017408 else if i = 1 then 4613937818241073152 else if i = 2 then 4611686018427387904 else 4613937818241073152
theorem lv_fw : ∀ j : Nat, j < 6 → fw (5 - (j : Int)) = lvB j := by decide +kernel
theorem lvB_in (i : Nat) : lvB i < 18446744073709551616 := by
  unfold lvB
  repeat (first | split | omega)
theorem lv_ord : ordL (kB lvB) 6 = [0, 1, 2, 3, 4, 5] := by
  refine (ord_one ⟨?_, ?_⟩).symm
  · show List.Pairwise (fun a b => kB lvB b < kB lvB a ∨ (kB lvB a = kB lvB b ∧ a < b)) [0, 1, 2, 3, 4, 5]
    decide +kernel
  · exact List.Perm.refl _
theorem lv_ord2 : ordL (kB lvO) 4 = [1, 3, 2, 0] := by
  refine (ord_one ⟨?_, ?_⟩).symm
  · show List.Pairwise (fun a b => kB lvO b < kB lvO a ∨ (kB lvO a = kB lvO b ∧ a < b)) [1, 3, 2, 0]
    decide +kernel
  · decide
theorem lv_d0 : dnR 1 lvB 0 = 5 := by decide +kernel
theorem lv_d5 : dnR 1 lvB 5 = -1 := by decide +kernel
theorem lv_run : (runR 1 lvB lvW lvT).1 0 = 75 ∧ (runR 1 lvB lvW lvT).1 5 = 25 ∧ (runR 1 lvB lvW lvT).2 0 = 8 ∧ (runR 1 lvB lvW lvT).2 5 = 2 := by
  unfold runR
  rw [show 6 * 1 * 1 = 6 from rfl, lv_ord]
  decide +kernel
theorem lv_good : good19 1 6 6 6 12 lvW lvT := by
  refine ⟨⟨rfl, rfl, rfl, rfl⟩, ⟨fun c _ => ?_, by decide⟩, ⟨fun c _ => ?_, by decide⟩⟩
  · unfold lvW; split <;> omega
  · unfold lvT; split <;> omega
theorem row_ne {w : World} {a b m n : Nat} {s t : TypeId} {f g : Nat → Value} (h1 : w.rowIs a s m f) (h2 : w.rowIs b t n g) (hst : s ≠ t) : a ≠ b := fun e => by
  subst e
  obtain ⟨c, k1, -⟩ := h1
  obtain ⟨d, k2, -⟩ := h2
  rw [k1] at k2
  injection k2 with k3
  injection k3 with _ k4
  exact hst k4
theorem four_in19 (v : World) : Sh.IsI (v.alloc (.cells #[.int .i64 1, .int .i64 3, .int .i64 2, .int .i64 0] 3)) (some ⟨v.heap.size, 0, none⟩) 4 (fun j => ((([1, 3, 2, 0] : List Nat).getD j 0 : Nat) : Int)) := by
  have h := heap_alloc_new v (.cells #[.int .i64 1, .int .i64 3, .int .i64 2, .int .i64 0] 3)
  intro k hk
  match k, hk with
  | 0, _ => exact ⟨by decide, _, 0, rfl, lt_of_block h, cell_of_row _ _ 0 _ _ _ h⟩
  | 1, _ => exact ⟨by decide, _, 0, rfl, lt_of_block h, cell_of_row _ _ 1 _ _ _ h⟩
  | 2, _ => exact ⟨by decide, _, 0, rfl, lt_of_block h, cell_of_row _ _ 2 _ _ _ h⟩
  | 3, _ => exact ⟨by decide, _, 0, rfl, lt_of_block h, cell_of_row _ _ 3 _ _ _ h⟩
theorem four_fl19 (v : World) : IsFl (v.alloc (.cells #[.float .f64 4607182418800017408, .float .f64 4613937818241073152, .float .f64 4611686018427387904, .float .f64 4613937818241073152] 40)) (some ⟨v.heap.size, 0, none⟩) 4 lvO := by
  have h := heap_alloc_new v (.cells #[.float .f64 4607182418800017408, .float .f64 4613937818241073152, .float .f64 4611686018427387904, .float .f64 4613937818241073152] 40)
  intro k hk
  match k, hk with
  | 0, _ => exact ⟨by decide, _, 0, rfl, lt_of_block h, cell_of_row _ _ 0 _ _ _ h⟩
  | 1, _ => exact ⟨by decide, _, 0, rfl, lt_of_block h, cell_of_row _ _ 1 _ _ _ h⟩
  | 2, _ => exact ⟨by decide, _, 0, rfl, lt_of_block h, cell_of_row _ _ 2 _ _ _ h⟩
  | 3, _ => exact ⟨by decide, _, 0, rfl, lt_of_block h, cell_of_row _ _ 3 _ _ _ h⟩
theorem own_w19 {B n : Nat} {v : Value} {f : Nat → Int} {w : World} (h : Sh.Own B v ((List.range n).map f) w) (hf : ∀ c, c < n → Sh.W64 (f c)) : ∃ a0 cap, v = .slice a0 n cap ∧ Sh.IsI w a0 n f := by
  obtain ⟨a0, cap, e, i⟩ := Sh.Own.in h (fun x hx => by
    obtain ⟨j, hj, rfl⟩ := List.mem_map.1 hx
    exact hf j (List.mem_range.1 hj))
  rw [List.length_map, List.length_range] at e i
  exact ⟨a0, cap, e, i.congr (fun k hk => by simp [List.getD, hk])⟩
set_option maxRecDepth 100000 in
set_option maxHeartbeats 16000000 in
theorem lives19_at (DC : DownC) (OC : OrderC) (RC : RunC) (w : World) (hF : Fr w) : Calls Tryz.prog 8 #[] w fun e w' => e = .returned (.bool true) ∧ Below w.heap.size w w' := by
  have NW := hid (new_at 1 w (by omega) hF)
  have HD := hid DC
  have HO := hid OC
  have HR := hid RC
  clear hF DC OC RC
  go_enter Tryz.func8, Tryz.ntmps8
  go_wp2_with fail
  refine NW.out.mono ?_
  rintro e v1 ⟨gb, rfl, a1, -, g1⟩
  have AW1 : Hid (Ab w v1) := a1
  have G1 : Hid (GridOf 1 gb v1) := g1
  clear a1 g1 NW
  have LK := hid (lake19_at v1 G1.out)
  go_wp2_with fail
  refine LK.out.mono ?_
  rintro e v2 ⟨b1, b2, b3, b4, rfl, k2, r1, r2, r3, r4, nb⟩
  have AV : Hid (Ab v1 (v2.alloc (.cells #[.slice (some ⟨b1, 0, none⟩) 6 6, .slice (some ⟨b2, 0, none⟩) 6 6, .slice (some ⟨b3, 0, none⟩) 6 6, .slice (some ⟨b4, 0, none⟩) 12 12, .int .i64 0, .int .i64 0] 25))) := Ab.alloc (show Ab v1 v2 from k2) _
  have SR : Hid ((v2.alloc (.cells #[.slice (some ⟨b1, 0, none⟩) 6 6, .slice (some ⟨b2, 0, none⟩) 6 6, .slice (some ⟨b3, 0, none⟩) 6 6, .slice (some ⟨b4, 0, none⟩) 12 12, .int .i64 0, .int .i64 0] 25)).heap[v2.heap.size]? = some (.cells #[.slice (some ⟨b1, 0, none⟩) 6 6, .slice (some ⟨b2, 0, none⟩) 6 6, .slice (some ⟨b3, 0, none⟩) 6 6, .slice (some ⟨b4, 0, none⟩) 12 12, .int .i64 0, .int .i64 0] 25)) := heap_alloc_new _ _
  have R1 := hid (r1.alloc (.cells #[.slice (some ⟨b1, 0, none⟩) 6 6, .slice (some ⟨b2, 0, none⟩) 6 6, .slice (some ⟨b3, 0, none⟩) 6 6, .slice (some ⟨b4, 0, none⟩) 12 12, .int .i64 0, .int .i64 0] 25))
  have R2 := hid (r2.alloc (.cells #[.slice (some ⟨b1, 0, none⟩) 6 6, .slice (some ⟨b2, 0, none⟩) 6 6, .slice (some ⟨b3, 0, none⟩) 6 6, .slice (some ⟨b4, 0, none⟩) 12 12, .int .i64 0, .int .i64 0] 25))
  have R3 := hid (r3.alloc (.cells #[.slice (some ⟨b1, 0, none⟩) 6 6, .slice (some ⟨b2, 0, none⟩) 6 6, .slice (some ⟨b3, 0, none⟩) 6 6, .slice (some ⟨b4, 0, none⟩) 12 12, .int .i64 0, .int .i64 0] 25))
  have R4 := hid (r4.alloc (.cells #[.slice (some ⟨b1, 0, none⟩) 6 6, .slice (some ⟨b2, 0, none⟩) 6 6, .slice (some ⟨b3, 0, none⟩) 6 6, .slice (some ⟨b4, 0, none⟩) 12 12, .int .i64 0, .int .i64 0] 25))
  have NB : Hid (((v1.heap.size ≤ b1 ∧ v1.heap.size ≤ b2 ∧ v1.heap.size ≤ b3 ∧ v1.heap.size ≤ b4) ∧ b1 ≠ b2 ∧ b1 ≠ b4 ∧ b2 ≠ b4 ∧ b3 ≠ b4 ∧ b3 ≠ b2) ∧ v2.heap.size ≠ b1 ∧ v2.heap.size ≠ b2 ∧ v2.heap.size ≠ b3 ∧ b1 ≠ b3) := ⟨nb, by have := r1.lt; omega, by have := r2.lt; omega, by have := r3.lt; omega, row_ne r1 r3 (by decide)⟩
  clear k2 r1 r2 r3 r4 nb LK
  go_upto_region 5 with fail
  obtain ⟨gs, hgs⟩ : ∃ x, v2.heap.size = x := ⟨_, rfl⟩
  generalize hV : v2.alloc (.cells #[.slice (some ⟨b1, 0, none⟩) 6 6, .slice (some ⟨b2, 0, none⟩) 6 6, .slice (some ⟨b3, 0, none⟩) 6 6, .slice (some ⟨b4, 0, none⟩) 12 12, .int .i64 0, .int .i64 0] 25) = V at *
  rw [hgs] at SR NB
  rw [hgs]
  clear hV hgs
  have c0 := cell_of_row _ _ 0 _ _ _ SR.out
  go_wp2
  clear c0
  go_loopw [4] (fun iv wr => ∃ c : Nat, c ≤ 6 ∧ iv = .int .i64 (c : Nat) ∧ Ab v1 wr ∧ wr.heap[gs]? = some (.cells #[.slice (some ⟨b1, 0, none⟩) 6 6, .slice (some ⟨b2, 0, none⟩) 6 6, .slice (some ⟨b3, 0, none⟩) 6 6, .slice (some ⟨b4, 0, none⟩) 12 12, .int .i64 0, .int .i64 0] 25) ∧ wr.rowIs b1 40 6 (fun j => .float .f64 (if j < c then lvB j else 0)) ∧ wr.rowIs b2 2 6 (fun j => .int .i64 (if j < c then 0 else lkW j)) ∧ wr.rowIs b3 2 6 (fun _ => .int .i64 0) ∧ wr.rowIs b4 40 12 (fun _ => .float .f64 0)) (fun iv _ => 6 - (intOf iv).toNat)
  case atStart => exact ⟨0, by omega, rfl, AV.out, SR.out, R1.out.congr (fun i _ => by simp), R2.out.congr (fun i _ => by simp), R3.out, R4.out⟩
  case round =>
    obtain ⟨c, hc, rfl, ar, s0, s1, s2, s3, s4⟩ := hrel
    have AR := hid ar
    have S0 := hid s0
    have S1 := hid s1
    have S2 := hid s2
    have S3 := hid s3
    have S4 := hid s4
    clear ar s0 s1 s2 s3 s4 AV SR R1 R2 R3 R4
    by_cases hcn : c < 6
    · have HC := hid hcn
      have hcI : (c : Int) < 6 := by omega
      have c0 := cell_of_row _ _ 0 _ _ _ S0.out
      have z1 := S1.out.cell hcn
      have z2 := S1.out.frozen c
      obtain ⟨y1, hy1⟩ : ∃ y, Value.float .f64 (if c < c then lvB c else 0) = y := ⟨_, rfl⟩
      rw [hy1] at z1
      obtain ⟨x, hx⟩ : ∃ x, lvB c = x := ⟨_, rfl⟩
      have CV := fun (w : World) => run_convert_int_float (P := Tryz.prog) w 3 40 .i64 .f64 (5 - (c : Int)) (by kernel_rfl) (by kernel_rfl)
      have ef : floatOfInt .f64 (5 - (c : Int)) = x := by
        rw [← hx, ← lv_fw c hcn]
        exact ofInt_d _
      rw [ef] at CV
      have N1 : Hid (wr.setCell ⟨b1, c, none⟩ (.float .f64 x) |>.rowIs b2 2 6 (fun j => .int .i64 (if j < c then 0 else lkW j))) := S2.out.setOther (a := ⟨b1, c, none⟩) (Ne.symm NB.out.1.2.1) _
      have u1 := N1.out.cell hcn
      have u2 := N1.out.frozen c
      obtain ⟨y2, hy2⟩ : ∃ y, Value.int .i64 (if c < c then 0 else lkW c) = y := ⟨_, rfl⟩
      rw [hy2] at u1
      have N0 : Hid ((wr.setCell ⟨b1, c, none⟩ (.float .f64 x)).heap[gs]? = some (.cells #[.slice (some ⟨b1, 0, none⟩) 6 6, .slice (some ⟨b2, 0, none⟩) 6 6, .slice (some ⟨b3, 0, none⟩) 6 6, .slice (some ⟨b4, 0, none⟩) 12 12, .int .i64 0, .int .i64 0] 25)) := (Below.heap_setCell _ _ _ _ NB.out.2.1).trans S0.out
      have c1 := cell_of_row _ _ 1 _ _ _ N0.out
      have XE := hid hx
      clear hy1 hy2 hx ef hcn hc
      go_wp2
      refine ⟨⟨c + 1, by have := HC.out; omega, by simp, (AR.out.set NB.out.1.1.1 _).set NB.out.1.1.2.1 _, (Below.heap_setCell _ _ _ _ NB.out.2.2.1).trans N0.out, ((S1.out.set c _).setOther NB.out.1.2.1 _).congr (fun i _ => ?_), (N1.out.set c _).congr (fun i _ => ?_), (S3.out.setOther (a := ⟨b1, c, none⟩) (Ne.symm NB.out.2.2.2.2) _).setOther NB.out.1.2.2.2.2.2 _, (S4.out.setOther (a := ⟨b1, c, none⟩) (Ne.symm NB.out.1.2.2.1) _).setOther (Ne.symm NB.out.1.2.2.2.1) _⟩, by have := HC.out; simp [intOf]; omega⟩
      · by_cases e : i = c
        · subst e; simp [XE.out]
        · have q : (i < c + 1) ↔ i < c := by omega
          simp [e, q]
      · by_cases e : i = c
        · subst e; simp
        · have q : (i < c + 1) ↔ i < c := by omega
          simp [e, q]
    · obtain rfl : c = 6 := by omega
      have c1 := cell_of_row _ _ 1 _ _ _ S0.out
      have z1 := S2.out.cell (show 0 < 6 by omega)
      have z2 := S2.out.frozen 0
      obtain ⟨y1, hy1⟩ : ∃ y, Value.int .i64 (if 0 < 6 then 0 else lkW 0) = y := ⟨_, rfl⟩
      rw [hy1] at z1
      have M0 : Hid ((wr.setCell ⟨b2, 0, none⟩ (.int .i64 100)).heap[gs]? = some (.cells #[.slice (some ⟨b1, 0, none⟩) 6 6, .slice (some ⟨b2, 0, none⟩) 6 6, .slice (some ⟨b3, 0, none⟩) 6 6, .slice (some ⟨b4, 0, none⟩) 12 12, .int .i64 0, .int .i64 0] 25)) := (Below.heap_setCell _ _ _ _ NB.out.2.2.1).trans S0.out
      have M3 : Hid ((wr.setCell ⟨b2, 0, none⟩ (.int .i64 100)).rowIs b3 2 6 (fun _ => .int .i64 0)) := S3.out.setOther (a := ⟨b2, 0, none⟩) NB.out.1.2.2.2.2.2 _
      have c2 := cell_of_row _ _ 2 _ _ _ M0.out
      have u1 := M3.out.cell (show 0 < 6 by omega)
      have u2 := M3.out.frozen 0
      have T0 : Hid (((wr.setCell ⟨b2, 0, none⟩ (.int .i64 100)).setCell ⟨b3, 0, none⟩ (.int .i64 10)).heap[gs]? = some (.cells #[.slice (some ⟨b1, 0, none⟩) 6 6, .slice (some ⟨b2, 0, none⟩) 6 6, .slice (some ⟨b3, 0, none⟩) 6 6, .slice (some ⟨b4, 0, none⟩) 12 12, .int .i64 0, .int .i64 0] 25)) := (Below.heap_setCell _ _ _ _ NB.out.2.2.2.1).trans M0.out
      have T1 : Hid (((wr.setCell ⟨b2, 0, none⟩ (.int .i64 100)).setCell ⟨b3, 0, none⟩ (.int .i64 10)).rowIs b1 40 6 (fun j => .float .f64 (lvB j))) := ((S1.out.setOther (a := ⟨b2, 0, none⟩) NB.out.1.2.1 _).setOther NB.out.2.2.2.2 _).congr (fun i hi => by simp [hi])
      have T2 : Hid (((wr.setCell ⟨b2, 0, none⟩ (.int .i64 100)).setCell ⟨b3, 0, none⟩ (.int .i64 10)).rowIs b2 2 6 (fun j => .int .i64 (lvW j))) := ((S2.out.set 0 _).setOther (Ne.symm NB.out.1.2.2.2.2.2) _).congr (fun i hi => by unfold lvW; by_cases e : i = 0 <;> simp [e, hi])
      have T3 : Hid (((wr.setCell ⟨b2, 0, none⟩ (.int .i64 100)).setCell ⟨b3, 0, none⟩ (.int .i64 10)).rowIs b3 2 6 (fun j => .int .i64 (lvT j))) := (M3.out.set 0 _).congr (fun i hi => by unfold lvT; by_cases e : i = 0 <;> simp [e])
      have T4 : Hid (((wr.setCell ⟨b2, 0, none⟩ (.int .i64 100)).setCell ⟨b3, 0, none⟩ (.int .i64 10)).rowIs b4 40 12 (fun _ => .float .f64 0)) := (S4.out.setOther (a := ⟨b2, 0, none⟩) (Ne.symm NB.out.1.2.2.2.1) _).setOther (Ne.symm NB.out.1.2.2.2.2.1) _
      have AT : Hid (Ab v1 ((wr.setCell ⟨b2, 0, none⟩ (.int .i64 100)).setCell ⟨b3, 0, none⟩ (.int .i64 10))) := (AR.out.set NB.out.1.1.2.1 _).set NB.out.1.1.2.2.1 _
      clear hy1
      go_upto_region 14 with fail
      generalize hS : World.setCell (World.setCell wr _ _) _ _ = X at *
      clear hS c1 z1 z2 M0 M3 c2 u1 u2 S0 S1 S2 S3 S4 AR
      have x0 := cell_of_row _ _ 0 _ _ _ T0.out
      have x1 := cell_of_row _ _ 1 _ _ _ T0.out
      have x2 := cell_of_row _ _ 2 _ _ _ T0.out
      have x3 := cell_of_row _ _ 3 _ _ _ T0.out
      have x4 := cell_of_row _ _ 4 _ _ _ T0.out
      have x5 := cell_of_row _ _ 5 _ _ _ T0.out
      have IB := hid (show IsFl X (some ⟨b1, 0, none⟩) 6 lvB from fun k hk => ⟨lvB_in k, b1, 0, rfl, T1.out.lt, by rw [Nat.zero_add]; exact T1.out.cell hk⟩)
      have IW := hid (Sh.row_in T2.out (fun i hi => by unfold lvW; split <;> omega))
      have IT := hid (Sh.row_in T3.out (fun i hi => by unfold lvT; split <;> omega))
      have IS := hid (show IsFl X (some ⟨b4, 0, none⟩) 12 (fun _ => 0) from fun k hk => ⟨by show (0 : Nat) < _; decide, b4, 0, rfl, T4.out.lt, by rw [Nat.zero_add]; exact T4.out.cell hk⟩)
      have CR := hid ((HR.out 1 gb (some ⟨b1, 0, none⟩) 6 6 lvB (some ⟨b2, 0, none⟩) 6 6 lvW (some ⟨b3, 0, none⟩) 6 6 lvT (some ⟨b4, 0, none⟩) 12 12 (fun _ => 0) 0 0 X (by omega) (G1.out.to AT.out) IB.out IW.out IT.out IS.out).1 lv_good)
      go_wp2_with fail
      refine CR.out.mono ?_
      rintro e9 Y ⟨va, vb, rfl, by1, oa, ob, -⟩
      have kk := (runR_ok (B := lvB) (Nat.le_refl 1) lv_good).1
      obtain ⟨pa, ca, rfl, ia⟩ := own_w19 oa (fun c hc => by have := kk.1.b hc; unfold Sh.W64; omega)
      obtain ⟨pb, cb, rfl, ib⟩ := own_w19 ob (fun c hc => by have := kk.2.b hc; unfold Sh.W64; omega)
      obtain ⟨qa, ra, rfl⟩ := ia.some0 (by omega)
      obtain ⟨qb, rb, rfl⟩ := ib.some0 (by omega)
      have d1 := (ia.at0 (k := 0) (by omega)).2.2
      have d2 := (ia.at0 (k := 5) (by omega)).2.2
      have d3 := (ib.at0 (k := 0) (by omega)).2.2
      have d4 := (ib.at0 (k := 5) (by omega)).2.2
      rw [lv_run.1] at d1
      rw [lv_run.2.1] at d2
      rw [lv_run.2.2.1] at d3
      rw [lv_run.2.2.2] at d4
      rw [Nat.add_zero] at d1 d3
      have AY : Hid (Ab X Y) := by1
      have Y0 := hid (Ab.heap AY.out T0.out)
      have y0 := cell_of_row _ _ 0 _ _ _ Y0.out
      clear oa ob kk ia ib by1 CR x0 x1 x2 x3 x4 x5
      have D0 := hid (HD.out 1 gb (some ⟨b1, 0, none⟩) 6 6 lvB 0 Y (by omega) (G1.out.to (AT.out.trans AY.out)) (IB.out.below AY.out) (by unfold Sh.W64; omega))
      rw [show (if (6 : Nat) = 6 * 1 * 1 ∧ (0 : Int) ≤ 0 ∧ (0 : Int) < ((6 * 1 * 1 : Nat) : Int) then dnR 1 lvB (0 : Int).toNat else -1) = 5 from (if_pos (by decide)).trans lv_d0] at D0
      go_wp2_with fail
      refine D0.out.mono ?_
      rintro e9 Z ⟨rfl, b5⟩
      have AZ : Hid (Ab X Z) := AY.out.trans b5
      have Z0 := hid (Ab.heap AZ.out T0.out)
      clear b5 D0 d1 d2 d3 d4 y0
      have y0 := cell_of_row _ _ 0 _ _ _ Z0.out
      have D5 := hid (HD.out 1 gb (some ⟨b1, 0, none⟩) 6 6 lvB 5 Z (by omega) (G1.out.to (AT.out.trans AZ.out)) (IB.out.below AZ.out) (by unfold Sh.W64; omega))
      rw [show (if (6 : Nat) = 6 * 1 * 1 ∧ (0 : Int) ≤ 5 ∧ (5 : Int) < ((6 * 1 * 1 : Nat) : Int) then dnR 1 lvB (5 : Int).toNat else -1) = -1 from (if_pos (by decide)).trans lv_d5] at D5
      go_wp2_with fail
      refine D5.out.mono ?_
      rintro e9 Q ⟨rfl, b6⟩
      have AQ : Hid (Ab X Q) := AZ.out.trans b6
      clear b6 D5 y0
      have O4 := hid (HO.out (some ⟨Q.heap.size, 0, none⟩) 4 4 lvO (Q.alloc (.cells #[.float .f64 4607182418800017408, .float .f64 4613937818241073152, .float .f64 4611686018427387904, .float .f64 4613937818241073152] 40)) (by omega) (four_fl19 Q))
      rw [lv_ord2] at O4
      have AO : Hid (Ab X (Q.alloc (.cells #[.float .f64 4607182418800017408, .float .f64 4613937818241073152, .float .f64 4611686018427387904, .float .f64 4613937818241073152] 40))) := AQ.out.alloc _
      go_wp2_with fail
      refine O4.out.mono ?_
      rintro e9 P ⟨vo, rfl, b7, o7⟩
      obtain ⟨po, co, rfl, io⟩ := OwnN.in o7 (fun x hx => by simp at hx; omega)
      have AP : Hid (Ab X P) := AO.out.trans b7
      have HIO := hid io
      clear b7 o7 io O4
      have NU := hid (numbers19_at po (some ⟨P.heap.size, 0, none⟩) 4 co 4 _ (P.alloc (.cells #[.int .i64 1, .int .i64 3, .int .i64 2, .int .i64 0] 3)) (by omega) (HIO.out.below (bl1 _ _)) (four_in19 P))
      have AN : Hid (Ab X (P.alloc (.cells #[.int .i64 1, .int .i64 3, .int .i64 2, .int .i64 0] 3))) := AP.out.alloc _
      go_wp2_with fail
      refine NU.out.mono ?_
      rintro e9 U ⟨rfl, b8⟩
      have AU : Hid (Ab w U) := AW1.out.trans (AT.out.trans (AN.out.trans b8))
      clear b8
      go_wp2
      go_ret
      exact ⟨rfl, AU.out⟩
end Rv
end Go.Proofs.YtkckcohemalhiaaGreatDoor
