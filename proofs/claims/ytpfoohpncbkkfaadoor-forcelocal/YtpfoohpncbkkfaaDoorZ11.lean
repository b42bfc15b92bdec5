/-
  Some of the texts of this proof, one behind the other.
-/
import Derived.Deep.QuietTactic
import Derived.Deep.AppendSrc
import Derived.Deep.AppendLies
import Derived.Test.YtpfoohpncbkkfaaDoorZ10
namespace Go.Proofs.YtpfoohpncbkkfaaDoor
open Go.RowKit Tf Cu Go.Deep
attribute [local go_sem] run_bits run_from raw_feq raw_fne raw_flt raw_fgt run_neg run_store_float
namespace Fc
set_option maxRecDepth 100000 in
set_option maxHeartbeats 64000000 in
theorem lake16_at {gb : Nat} (w : World) (g : GridOf 1 gb w) :
    Calls Tryd.prog 25 #[.pointer (some ⟨gb, 0, none⟩)] w fun e w' => ∃ b1 b2 b3 b4, e = .returned (.agg #[.slice (some ⟨b1, 0, none⟩) 6 6, .slice (some ⟨b2, 0, none⟩) 6 6, .slice (some ⟨b3, 0, none⟩) 6 6, .slice (some ⟨b4, 0, none⟩) 12 12, .int .i64 0, .int .i64 0]) ∧ Below w.heap.size w w' ∧ w'.rowIs b1 22 6 (fun _ => .float .f64 0) ∧ w'.rowIs b2 2 6 (fun i => .int .i64 (lkW i)) ∧ w'.rowIs b3 2 6 (fun _ => .int .i64 0) ∧ w'.rowIs b4 22 12 (fun _ => .float .f64 0) ∧ ((w.heap.size ≤ b1 ∧ w.heap.size ≤ b2 ∧ w.heap.size ≤ b3 ∧ w.heap.size ≤ b4) ∧ b1 ≠ b2 ∧ b1 ≠ b4 ∧ b2 ≠ b4 ∧ b3 ≠ b4 ∧ b3 ≠ b2) := by
  have CC : Hid (∀ v, Ab w v → Calls Tryd.prog 36 #[.pointer (some ⟨gb, 0, none⟩)] v fun e w' => e = .returned (.int .i64 6) ∧ w' = v) := fun v hv => gCells_at (g.to hv)
  have CE : Hid (∀ v, Ab w v → Calls Tryd.prog 28 #[.pointer (some ⟨gb, 0, none⟩)] v fun e w' => e = .returned (.int .i64 12) ∧ w' = v) := fun v hv => gEdges_at (g.to hv)
  have M1 : ∀ v : World, (Instr.makeSlice 26 (.int .i64 6) (.int .i64 6)).run Tryd.prog v = .ok (.slice (some ⟨v.heap.size, 0, none⟩) 6 6) (v.alloc (Obj.cells (madeCells #[.float .f64 0] 6) 22)) := fun v => by
    exact run_make_row' (P := Tryd.prog) 26 22 (.float .f64 0) 8 Tryd.underlying26 infoF64 rfl .i64 .i64 6 (by omega) (by omega) v
  have M2 : ∀ v : World, (Instr.makeSlice 27 (.int .i64 6) (.int .i64 6)).run Tryd.prog v = .ok (.slice (some ⟨v.heap.size, 0, none⟩) 6 6) (v.alloc (Obj.cells (madeCells #[.int .i64 0] 6) 2)) := fun v => by
    exact run_make_row' (P := Tryd.prog) 27 2 (.int .i64 0) 8 Tryd.underlying27 info64 rfl .i64 .i64 6 (by omega) (by omega) v
  have M3 : ∀ v : World, (Instr.makeSlice 26 (.int .i64 12) (.int .i64 12)).run Tryd.prog v = .ok (.slice (some ⟨v.heap.size, 0, none⟩) 12 12) (v.alloc (Obj.cells (madeCells #[.float .f64 0] 12) 22)) := fun v => by
    exact run_make_row' (P := Tryd.prog) 26 22 (.float .f64 0) 8 Tryd.underlying26 infoF64 rfl .i64 .i64 12 (by omega) (by omega) v
  have AL : ∀ v : World, (Instr.alloc 29 true (.tuple #[])).run Tryd.prog v = .ok (.pointer (some ⟨v.heap.size, 0, none⟩)) (v.alloc (.cells #[.slice none 0 0, .slice none 0 0, .slice none 0 0, .slice none 0 0, .int .i64 0, .int .i64 0] 29)) := fun v => by
    simp [go_sem]
  have A0 : Hid (Ab w (w.alloc (.cells #[.slice none 0 0, .slice none 0 0, .slice none 0 0, .slice none 0 0, .int .i64 0, .int .i64 0] 29))) := bl1 _ _
  go_enter Tryd.func25, Tryd.ntmps25
  go_wp2_with fail
  refine (CC.out _ A0.out).mono ?_
  rintro e9 vq ⟨rfl, hvq⟩
  have hvq2 := hvq.symm
  subst hvq2
  go_wp2_with fail
  refine (CE.out _ A0.out).mono ?_
  rintro e9 vq ⟨rfl, hvq⟩
  have hvq2 := hvq.symm
  subst hvq2
  go_upto_region 4 with fail
  generalize hW : World.alloc w _ = W at *
  go_cut [4] from 22 to 31 (fun s4 wx => ∃ g4 b1 b2 b3 b4, s4 = .pointer (some ⟨g4, 0, none⟩) ∧ Ab W wx ∧ wx.heap[g4]? = some (.cells #[.slice (some ⟨b1, 0, none⟩) 6 6, .slice (some ⟨b2, 0, none⟩) 6 6, .slice (some ⟨b3, 0, none⟩) 6 6, .slice (some ⟨b4, 0, none⟩) 12 12, .int .i64 0, .int .i64 0] 29) ∧ wx.heap[b1]? = some (Obj.cells (madeCells #[.float .f64 0] 6) 22) ∧ wx.heap[b2]? = some (Obj.cells (madeCells #[.int .i64 0] 6) 2) ∧ wx.heap[b3]? = some (Obj.cells (madeCells #[.int .i64 0] 6) 2) ∧ wx.heap[b4]? = some (Obj.cells (madeCells #[.float .f64 0] 12) 22) ∧ W.heap.size ≤ g4 ∧ W.heap.size ≤ b1 ∧ W.heap.size ≤ b2 ∧ W.heap.size ≤ b3 ∧ W.heap.size ≤ b4 ∧ g4 ≠ b1 ∧ g4 ≠ b2 ∧ g4 ≠ b3 ∧ g4 ≠ b4 ∧ b1 ≠ b2 ∧ b1 ≠ b3 ∧ b1 ≠ b4 ∧ b2 ≠ b3 ∧ b2 ≠ b4 ∧ b3 ≠ b4)
  case first =>
    obtain ⟨UU, E, hF1, hF2⟩ := cls W.drew
    have HU := hid hF2
    clear hF1 hF2
    refine region_free 11 (fun k => if k = 1 then some ((Obj.cells (madeCells #[.float .f64 0] 6) 22), fun b => .slice (some ⟨b, 0, none⟩) 6 6) else if k = 3 then some ((Obj.cells (madeCells #[.int .i64 0] 6) 2), fun b => .slice (some ⟨b, 0, none⟩) 6 6) else if k = 5 then some ((Obj.cells (madeCells #[.int .i64 0] 6) 2), fun b => .slice (some ⟨b, 0, none⟩) 6 6) else if k = 8 then some ((Obj.cells (madeCells #[.float .f64 0] 12) 22), fun b => .slice (some ⟨b, 0, none⟩) 12 12) else if k = 10 then some ((.cells #[.slice none 0 0, .slice none 0 0, .slice none 0 0, .slice none 0 0, .int .i64 0, .int .i64 0] 29), fun b => .pointer (some ⟨b, 0, none⟩)) else none) (by kernel_rfl) (by kernel_rfl) (by kernel_rfl) ?_
    simp only [List.take_succ_cons, List.take_zero]
    refine wpFree_one HU (by rfl) (by rfl) ?_
    go_big_quiet_step (with_reducible rfl)
    refine wpQuiet_nil ?_
    refine wpFree_lay (ob := (Obj.cells (madeCells #[.float .f64 0] 6) 22)) (mk := fun b => .slice (some ⟨b, 0, none⟩) 6 6) (by rfl) (by kernel_rfl) ?_ ?_
    · refine lay_make (vx := .int .i64 6) (vy := .int .i64 6) (ob := (Obj.cells (madeCells #[.float .f64 0] 6) 22)) (mk := fun b => .slice (some ⟨b, 0, none⟩) 6 6) rfl ?_ ?_ ?_
      · rfl
      · rfl
      · exact M1
    intro b1 fb1
    simp only [Act.put, List.setIfInBounds_toArray, List.set_cons_succ, List.set_cons_zero]
    refine wpFree_one HU (by rfl) (by rfl) ?_
    go_big_quiet_step (with_reducible rfl)
    refine wpQuiet_nil ?_
    refine wpFree_lay (ob := (Obj.cells (madeCells #[.int .i64 0] 6) 2)) (mk := fun b => .slice (some ⟨b, 0, none⟩) 6 6) (by rfl) (by kernel_rfl) ?_ ?_
    · refine lay_make (vx := .int .i64 6) (vy := .int .i64 6) (ob := (Obj.cells (madeCells #[.int .i64 0] 6) 2)) (mk := fun b => .slice (some ⟨b, 0, none⟩) 6 6) rfl ?_ ?_ ?_
      · rfl
      · rfl
      · exact M2
    intro b2 fb2
    simp only [Act.put, List.setIfInBounds_toArray, List.set_cons_succ, List.set_cons_zero]
    refine wpFree_one HU (by rfl) (by rfl) ?_
    go_big_quiet_step (with_reducible rfl)
    refine wpQuiet_nil ?_
    refine wpFree_lay (ob := (Obj.cells (madeCells #[.int .i64 0] 6) 2)) (mk := fun b => .slice (some ⟨b, 0, none⟩) 6 6) (by rfl) (by kernel_rfl) ?_ ?_
    · refine lay_make (vx := .int .i64 6) (vy := .int .i64 6) (ob := (Obj.cells (madeCells #[.int .i64 0] 6) 2)) (mk := fun b => .slice (some ⟨b, 0, none⟩) 6 6) rfl ?_ ?_ ?_
      · rfl
      · rfl
      · exact M2
    intro b3 fb3
    simp only [Act.put, List.setIfInBounds_toArray, List.set_cons_succ, List.set_cons_zero]
    refine wpFree_one HU (by rfl) (by rfl) ?_
    go_big_quiet_step (with_reducible rfl)
    refine wpQuiet_nil ?_
    refine wpFree_one HU (by rfl) (by rfl) ?_
    go_big_quiet_step (with_reducible rfl)
    refine wpQuiet_nil ?_
    refine wpFree_lay (ob := (Obj.cells (madeCells #[.float .f64 0] 12) 22)) (mk := fun b => .slice (some ⟨b, 0, none⟩) 12 12) (by rfl) (by kernel_rfl) ?_ ?_
    · refine lay_make (vx := .int .i64 12) (vy := .int .i64 12) (ob := (Obj.cells (madeCells #[.float .f64 0] 12) 22)) (mk := fun b => .slice (some ⟨b, 0, none⟩) 12 12) rfl ?_ ?_ ?_
      · rfl
      · rfl
      · exact M3
    intro b4 fb4
    simp only [Act.put, List.setIfInBounds_toArray, List.set_cons_succ, List.set_cons_zero]
    refine wpFree_one HU (by rfl) (by rfl) ?_
    go_big_quiet_step (with_reducible rfl)
    refine wpQuiet_nil ?_
    refine wpFree_lay (ob := (.cells #[.slice none 0 0, .slice none 0 0, .slice none 0 0, .slice none 0 0, .int .i64 0, .int .i64 0] 29)) (mk := fun b => .pointer (some ⟨b, 0, none⟩)) (by rfl) (by kernel_rfl) ?_ ?_
    · refine lay_alloc (ob := (.cells #[.slice none 0 0, .slice none 0 0, .slice none 0 0, .slice none 0 0, .int .i64 0, .int .i64 0] 29)) (mk := fun b => .pointer (some ⟨b, 0, none⟩)) rfl ?_
      · exact AL
    intro g4 fg4
    simp only [Act.put, List.setIfInBounds_toArray, List.set_cons_succ, List.set_cons_zero]

    refine wpFree_nil ?_
    intro wz hz
    have h1 := hz.at (i := 1) (b := b1) (ob := (Obj.cells (madeCells #[.float .f64 0] 6) 22)) (by rfl) (by rfl)
    have h2 := hz.at (i := 3) (b := b2) (ob := (Obj.cells (madeCells #[.int .i64 0] 6) 2)) (by rfl) (by rfl)
    have h3 := hz.at (i := 5) (b := b3) (ob := (Obj.cells (madeCells #[.int .i64 0] 6) 2)) (by rfl) (by rfl)
    have h4 := hz.at (i := 8) (b := b4) (ob := (Obj.cells (madeCells #[.float .f64 0] 12) 22)) (by rfl) (by rfl)
    have h5 := hz.at (i := 10) (b := g4) (ob := (.cells #[.slice none 0 0, .slice none 0 0, .slice none 0 0, .slice none 0 0, .int .i64 0, .int .i64 0] 29)) (by rfl) (by rfl)
    have n12 : b1 ≠ b2 := fb2.2 1 b1 (by rfl)
    have n13 : b1 ≠ b3 := fb3.2 1 b1 (by rfl)
    have n14 : b1 ≠ b4 := fb4.2 1 b1 (by rfl)
    have n15 : b1 ≠ g4 := fg4.2 1 b1 (by rfl)
    have n23 : b2 ≠ b3 := fb3.2 3 b2 (by rfl)
    have n24 : b2 ≠ b4 := fb4.2 3 b2 (by rfl)
    have n25 : b2 ≠ g4 := fg4.2 3 b2 (by rfl)
    have n34 : b3 ≠ b4 := fb4.2 5 b3 (by rfl)
    have n35 : b3 ≠ g4 := fg4.2 5 b3 (by rfl)
    have n45 : b4 ≠ g4 := fg4.2 8 b4 (by rfl)
    have AZ : Ab W wz := (Ab.refl W).drew.trans hz.1
    have RZ := hid h5.1
    have HH := hid (And.intro h1 (And.intro h2 (And.intro h3 (And.intro h4 h5))))
    have NN := hid (And.intro n12 (And.intro n13 (And.intro n14 (And.intro n15 (And.intro n23 (And.intro n24 (And.intro n25 (And.intro n34 (And.intro n35 n45)))))))))
    have HAZ := hid AZ
    clear hz fb1 fb2 fb3 fb4 fg4 h1 h2 h3 h4 h5 n12 n13 n14 n15 n23 n24 n25 n34 n35 n45 AZ HU
    clear E UU
    have t0 := cell_of_row _ _ 0 _ _ _ RZ.out
    have t1 := cell_of_row _ _ 1 _ _ _ RZ.out
    have t2 := cell_of_row _ _ 2 _ _ _ RZ.out
    have t3 := cell_of_row _ _ 3 _ _ _ RZ.out
    have t4 := cell_of_row _ _ 4 _ _ _ RZ.out
    have t5 := cell_of_row _ _ 5 _ _ _ RZ.out
    have f0 := free_row RZ.out 0
    have f1 := free_row RZ.out 1
    have f2 := free_row RZ.out 2
    have f3 := free_row RZ.out 3
    have f4 := free_row RZ.out 4
    have f5 := free_row RZ.out 5
    simp only [List.drop_succ_cons, List.drop_zero]
    go_wp2_with fail
    go_meet
    obtain ⟨⟨k1, l1⟩, ⟨k2, l2⟩, ⟨k3, l3⟩, ⟨k4, l4⟩, ⟨k5, l5⟩⟩ := HH.out
    obtain ⟨n12, n13, n14, n15, n23, n24, n25, n34, n35, n45⟩ := NN.out
    have st : ∀ (b : Nat) (o : Obj), b ≠ g4 → wz.heap[b]? = some o → ∀ x0 x1 x2 x3 x4 x5, ((((((wz.setCell ⟨g4, 0, none⟩ x0).setCell ⟨g4, 1, none⟩ x1).setCell ⟨g4, 2, none⟩ x2).setCell ⟨g4, 3, none⟩ x3).setCell ⟨g4, 4, none⟩ x4).setCell ⟨g4, 5, none⟩ x5).heap[b]? = some o := fun b o hb h x0 x1 x2 x3 x4 x5 => by
      rw [heap_set_ne hb, heap_set_ne hb, heap_set_ne hb, heap_set_ne hb, heap_set_ne hb, heap_set_ne hb]
      exact h
    refine ⟨g4, b1, b2, b3, b4, rfl, ?_, row6 k5, st b1 _ n15 k1 _ _ _ _ _ _, st b2 _ n25 k2 _ _ _ _ _ _, st b3 _ n35 k3 _ _ _ _ _ _, st b4 _ n45 k4 _ _ _ _ _ _, l5, l1, l2, l3, l4, Ne.symm n15, Ne.symm n25, Ne.symm n35, Ne.symm n45, n12, n13, n14, n23, n24, n34⟩
    exact (((((HAZ.out.setk l5 _).setk l5 _).setk l5 _).setk l5 _).setk l5 _).setk l5 _
  case rest =>
    obtain ⟨g4, b1, b2, b3, b4, rfl, a4, r4, m1, m2, m3, m4, l5, l1, l2, l3, l4, n51, n52, n53, n54, n12, n13, n14, n23, n24, n34⟩ := hcut
    obtain ⟨gd, hgd⟩ : ∃ x, w.heap.size = x := ⟨_, rfl⟩
    have HL : Hid (gd + 1 ≤ b1 ∧ gd + 1 ≤ b2 ∧ gd + 1 ≤ b3 ∧ gd + 1 ≤ b4 ∧ gd + 1 ≤ g4) := by
      rw [← hW, size1] at l1 l2 l3 l4 l5
      rw [← hgd]
      exact ⟨l1, l2, l3, l4, l5⟩
    have NN : Hid (g4 ≠ b2 ∧ b1 ≠ b2 ∧ b3 ≠ b2 ∧ b4 ≠ b2 ∧ b1 ≠ b4 ∧ b3 ≠ b4) := ⟨n52, n12, Ne.symm n23, Ne.symm n24, n14, n34⟩
    have ZR : Hid (W.heap[gd]? = some (.cells #[.slice none 0 0, .slice none 0 0, .slice none 0 0, .slice none 0 0, .int .i64 0, .int .i64 0] 29)) := by rw [← hW, ← hgd]; exact heap_alloc_new _ _
    have AWW : Hid (Ab w W) := A0.out
    have FI := hid (show LkI w gd g4 b1 b2 b3 b4 0 wc from ⟨AWW.out.trans a4, r4, Ab.heap a4 ZR.out, made_row m1, (made_row m2).congr (fun i _ => by simp), made_row m3, made_row m4⟩)
    have HG := hid g
    have HN : Hid (w.heap.size = gd) := hgd
    rw [hgd]
    clear a4 r4 m1 m2 m3 m4 l1 l2 l3 l4 l5 n51 n52 n53 n54 n12 n13 n14 n23 n24 n34 hgd hW ZR AWW g CC CE M1 M2 M3 AL A0
    go_wp2
    go_loopw [5] (fun iv wr => ∃ c : Nat, c ≤ 6 ∧ iv = .int .i64 (c : Nat) ∧ LkI w gd g4 b1 b2 b3 b4 c wr) (fun iv _ => 6 - (intOf iv).toNat)
    case atStart => exact ⟨0, by omega, rfl, FI.out⟩
    case round =>
      obtain ⟨c, hc, rfl, F⟩ := hrel
      clear FI
      have FF := hid F
      clear F
      by_cases hc6 : c < 6
      · have hc' : (c : Int) < 6 := by omega
        have HC6 := hid hc6
        have AR : Hid (∀ v, Ab w v → Calls Tryd.prog 17 #[.pointer (some ⟨gb, 0, none⟩), .int .i64 (c : Nat)] v fun e w' => e = .returned (.int .i64 1431655765) ∧ Below v.heap.size v w') := fun v hv => by
          have h := gArea_ok (n := 1) (by decide) hc6 (HG.out.to hv)
          rwa [ar13 c hc6] at h
        clear hc6
        go_upto_region 8 with fail
        obtain ⟨UU, E, hF1, hF2⟩ := cls wr
        have HU := hid hF2
        have HU1 := hid hF1
        have x1 : ∀ u, (E u).cell? ⟨g4, 1, none⟩ = some (.slice (some ⟨b2, 0, none⟩) 6 6) := fun u => cell_of_row _ _ 1 _ _ _ (FF.out.to (hF1 u)).2.1
        have HX : Hid (∀ u, Ab w (E u)) := fun u => (FF.out.to (hF1 u)).1
        have DD0 := HU.out _ (Ab.refl wr).drew
        clear hF1 hF2
        refine region_tail 7 E (by kernel_rfl) (by kernel_rfl) (by kernel_rfl) DD0 ?_
        simp only [List.take_succ_cons, List.take_zero, List.drop_succ_cons, List.drop_zero]
        repeat (go_big_quiet_step (first
          | (with_reducible rfl)
          | (go_at_call 17; exact calls_cls HU HU1 (AR.out _ (HX.out _)))))
        refine wpQuiet_nil ?_
        intro vz hwz
        obtain ⟨u0, hu⟩ := hwz
        have AZ : Hid (Ab wr vz) := by rw [hu]; exact HU1.out u0
        clear hu u0
        clear HU HU1 HX DD0 x1
        clear E UU
        have FZ := hid (FF.out.to AZ.out)
        have z1 := FZ.out.2.2.2.2.1.cell HC6.out
        have z2 := FZ.out.2.2.2.2.1.frozen c
        go_upto_region 9 with fail
        have F2 := hid (FZ.out.set NN.out HL.out c 1431655765 (by rw [HN.out]; exact Nat.le_refl _))
        clear z1 z2 FZ FF AZ
        generalize World.setCell vz _ _ = v2 at *
        by_cases c1 : c = 1
        · subst c1
          have y1 := cell_of_row _ _ 1 _ _ _ F2.out.2.1
          have p1 : v2.cell? ⟨b2, 1, none⟩ = some (.int .i64 1431655765) := by rw [F2.out.2.2.2.2.1.cell HC6.out]; simp
          have p2 := F2.out.2.2.2.2.1.frozen 1
          go_upto_region 10 with fail
          clear y1 p1 p2
          obtain ⟨UU, E, hF1, hF2⟩ := cls v2
          have HU := hid hF2
          have HU1 := hid hF1
          have x1 : ∀ u, (E u).cell? ⟨g4, 1, none⟩ = some (.slice (some ⟨b2, 0, none⟩) 6 6) := fun u => cell_of_row _ _ 1 _ _ _ ((hF1 u).heap F2.out.2.1)
          have x2 : ∀ u, (E u).cell? ⟨b2, 1, none⟩ = some (.int .i64 1431655765) := fun u => by rw [(rowIs.ab F2.out.2.2.2.2.1 (hF1 u)).cell HC6.out]; simp
          have DD0 := HU.out _ (Ab.refl v2).drew
          clear hF1 hF2
          refine region_tail 10 E (by kernel_rfl) (by kernel_rfl) (by kernel_rfl) DD0 ?_
          simp only [List.take_succ_cons, List.take_zero, List.drop_succ_cons, List.drop_zero]
          repeat (go_big_quiet_step (with_reducible rfl))
          refine wpQuiet_nil ?_
          intro vz hwz
          obtain ⟨u0, hu⟩ := hwz
          have AZ : Hid (Ab v2 vz) := by rw [hu]; exact HU1.out u0
          clear hu u0
          clear HU HU1 DD0 x1 x2
          clear E UU
          have F3 := hid (F2.out.to2 AZ.out)
          have z1 := F3.out.2.2.2.2.1.cell HC6.out
          have z2 := F3.out.2.2.2.2.1.frozen 1
          go_wp2
          refine ⟨⟨2, by omega, by simp, ?_⟩, by simp [intOf]⟩
          exact (F3.out.set NN.out HL.out 1 2863311530 (by rw [HN.out]; exact Nat.le_refl _)).fin (fun i => by
            by_cases e : i = 1
            · simp [e, lkW]
            · by_cases e2 : i < 1
              · have : i < 2 := by omega
                simp [e, e2, this]
              · have : ¬ i < 2 := by omega
                simp [e, e2, this])
        · have c2 : ((c : Int) == 1) = false := by rw [beq_eq_false_iff_ne]; omega
          go_wp2
          refine ⟨⟨c + 1, by have := HC6.out; omega, by simp, ?_⟩, by simp [intOf]; have := HC6.out; omega⟩
          exact F2.out.fin (fun i => by
            by_cases e : i = c
            · subst e
              simp [lkW, c1]
            · by_cases l : i < c
              · simp [e, l, show i < c + 1 by omega]
              · simp [e, l, show ¬ i < c + 1 by omega])
      · have e6 : c = 6 := by omega
        subst e6
        have s0 := cell_of_row _ _ 0 _ _ _ FF.out.2.1
        have s1 := cell_of_row _ _ 1 _ _ _ FF.out.2.1
        have s2 := cell_of_row _ _ 2 _ _ _ FF.out.2.1
        have s3 := cell_of_row _ _ 3 _ _ _ FF.out.2.1
        have s4 := cell_of_row _ _ 4 _ _ _ FF.out.2.1
        have s5 := cell_of_row _ _ 5 _ _ _ FF.out.2.1
        have RZ := FF.out.2.2.1
        have t0 := cell_of_row _ _ 0 _ _ _ RZ
        have t1 := cell_of_row _ _ 1 _ _ _ RZ
        have t2 := cell_of_row _ _ 2 _ _ _ RZ
        have t3 := cell_of_row _ _ 3 _ _ _ RZ
        have t4 := cell_of_row _ _ 4 _ _ _ RZ
        have t5 := cell_of_row _ _ 5 _ _ _ RZ
        have f0 := free_row RZ 0
        have f1 := free_row RZ 1
        have f2 := free_row RZ 2
        have f3 := free_row RZ 3
        have f4 := free_row RZ 4
        have f5 := free_row RZ 5
        have ROW := hid (row6 (x := .slice (some ⟨b1, 0, none⟩) 6 6) (y := .slice (some ⟨b2, 0, none⟩) 6 6) (z := .slice (some ⟨b3, 0, none⟩) 6 6) (p := .slice (some ⟨b4, 0, none⟩) 12 12) (q := .int .i64 0) (r := .int .i64 0) RZ)
        clear RZ
        go_wp2
        have BN : Hid (b1 ≠ gd ∧ b2 ≠ gd ∧ b3 ≠ gd ∧ b4 ≠ gd) := by
          have := HL.out
          exact ⟨by omega, by omega, by omega, by omega⟩
        have G1 := FF.out.2.2.2.1
        have G2 := FF.out.2.2.2.2.1
        have G3 := FF.out.2.2.2.2.2.1
        have G4 := FF.out.2.2.2.2.2.2
        have GA := FF.out.1
        refine bodyPost_ret ?_ rfl ⟨b1, b2, b3, b4, rfl, ?_, ?_, ?_, ?_, ?_, ?_⟩
        · exact results_cell_row Tryd.results25 _ _ gd _ _ (0, 0) _ rfl ROW.out Tryd.underlying29 rfl (by kernel_rfl)
        · exact (((((GA.setk (by rw [HN.out]; omega) _).setk (by rw [HN.out]; omega) _).setk (by rw [HN.out]; omega) _).setk (by rw [HN.out]; omega) _).setk (by rw [HN.out]; omega) _).setk (by rw [HN.out]; omega) _
        · exact (((((G1.setOther BN.out.1 _).setOther BN.out.1 _).setOther BN.out.1 _).setOther BN.out.1 _).setOther BN.out.1 _).setOther BN.out.1 _
        · exact ((((((G2.congr (fun i hi => by simp [hi])).setOther BN.out.2.1 _).setOther BN.out.2.1 _).setOther BN.out.2.1 _).setOther BN.out.2.1 _).setOther BN.out.2.1 _).setOther BN.out.2.1 _
        · exact (((((G3.setOther BN.out.2.2.1 _).setOther BN.out.2.2.1 _).setOther BN.out.2.2.1 _).setOther BN.out.2.2.1 _).setOther BN.out.2.2.1 _).setOther BN.out.2.2.1 _
        · exact (((((G4.setOther BN.out.2.2.2 _).setOther BN.out.2.2.2 _).setOther BN.out.2.2.2 _).setOther BN.out.2.2.2 _).setOther BN.out.2.2.2 _).setOther BN.out.2.2.2 _
        · have := HL.out
          exact ⟨⟨by rw [HN.out]; omega, by rw [HN.out]; omega, by rw [HN.out]; omega, by rw [HN.out]; omega⟩, NN.out.2.1, NN.out.2.2.2.2.1, Ne.symm NN.out.2.2.2.1, NN.out.2.2.2.2.2, NN.out.2.2.1⟩
end Fc
end Go.Proofs.YtpfoohpncbkkfaaDoor

namespace Go.Proofs.YtpfoohpncbkkfaaDoor
open Go.RowKit Tf Cu Go.Deep
attribute [local go_sem] run_bits run_from raw_feq raw_fne raw_flt raw_fgt run_neg run_store_float
namespace Fc
theorem lvW_in (i : Nat) : -9223372036854775808 ≤ lvW i ∧ lvW i ≤ 9223372036854775807 := by
  unfold lvW lkW
  split
  · omega
  · split <;> omega
theorem same16 (x : Nat) (v : World) : Calls Tryd.prog 12 #[.float .f64 x, .float .f64 x] v fun e w' => e = .returned (.bool true) ∧ w' = v := by
  go_enter Tryd.func12, Tryd.ntmps12
  go_wp2
  go_ret
  exact ⟨rfl, rfl⟩
set_option maxRecDepth 100000 in
set_option maxHeartbeats 8000000 in
theorem lives16_at (OC : OpenC) (SC : SpeedsC) (w : World) (hF : Fr w) : Calls Tryd.prog 9 #[] w fun e w' => e = .returned (.bool true) ∧ Below w.heap.size w w' := by
  have NW := hid (new_at 1 w (by omega) hF)
  have HA := hid SC
  have HO := hid OC
  clear hF SC OC
  go_enter Tryd.func9, Tryd.ntmps9
  go_wp2_with fail
  refine NW.out.mono ?_
  rintro e v1 ⟨gb, rfl, a1, -, g1⟩
  have AW1 : Hid (Ab w v1) := a1
  have G1 : Hid (GridOf 1 gb v1) := g1
  clear a1 g1 NW
  have LK := hid (lake16_at v1 G1.out)
  go_wp2_with fail
  refine LK.out.mono ?_
  rintro e v2 ⟨b1, b2, b3, b4, rfl, k2, r1, r2, r3, r4, nb⟩
  have AV : Hid (Ab v1 (v2.alloc (.cells #[.slice (some ⟨b1, 0, none⟩) 6 6, .slice (some ⟨b2, 0, none⟩) 6 6, .slice (some ⟨b3, 0, none⟩) 6 6, .slice (some ⟨b4, 0, none⟩) 12 12, .int .i64 0, .int .i64 0] 29))) := Ab.alloc (show Ab v1 v2 from k2) _
  have SR : Hid ((v2.alloc (.cells #[.slice (some ⟨b1, 0, none⟩) 6 6, .slice (some ⟨b2, 0, none⟩) 6 6, .slice (some ⟨b3, 0, none⟩) 6 6, .slice (some ⟨b4, 0, none⟩) 12 12, .int .i64 0, .int .i64 0] 29)).heap[v2.heap.size]? = some (.cells #[.slice (some ⟨b1, 0, none⟩) 6 6, .slice (some ⟨b2, 0, none⟩) 6 6, .slice (some ⟨b3, 0, none⟩) 6 6, .slice (some ⟨b4, 0, none⟩) 12 12, .int .i64 0, .int .i64 0] 29)) := heap_alloc_new _ _
  have R1 := hid (r1.alloc (.cells #[.slice (some ⟨b1, 0, none⟩) 6 6, .slice (some ⟨b2, 0, none⟩) 6 6, .slice (some ⟨b3, 0, none⟩) 6 6, .slice (some ⟨b4, 0, none⟩) 12 12, .int .i64 0, .int .i64 0] 29))
  have R2 := hid (r2.alloc (.cells #[.slice (some ⟨b1, 0, none⟩) 6 6, .slice (some ⟨b2, 0, none⟩) 6 6, .slice (some ⟨b3, 0, none⟩) 6 6, .slice (some ⟨b4, 0, none⟩) 12 12, .int .i64 0, .int .i64 0] 29))
  have R4 := hid (r4.alloc (.cells #[.slice (some ⟨b1, 0, none⟩) 6 6, .slice (some ⟨b2, 0, none⟩) 6 6, .slice (some ⟨b3, 0, none⟩) 6 6, .slice (some ⟨b4, 0, none⟩) 12 12, .int .i64 0, .int .i64 0] 29))
  have NB : Hid (((v1.heap.size ≤ b1 ∧ v1.heap.size ≤ b2 ∧ v1.heap.size ≤ b3 ∧ v1.heap.size ≤ b4) ∧ b1 ≠ b2 ∧ b1 ≠ b4 ∧ b2 ≠ b4 ∧ b3 ≠ b4 ∧ b3 ≠ b2) ∧ v2.heap.size ≠ b1 ∧ v2.heap.size ≠ b2) := ⟨nb, by have := r1.lt; omega, by have := r2.lt; omega⟩
  clear k2 r1 r2 r3 r4 nb LK
  go_upto_region 5 with fail
  obtain ⟨gs, hgs⟩ : ∃ x, v2.heap.size = x := ⟨_, rfl⟩
  generalize hV : v2.alloc (.cells #[.slice (some ⟨b1, 0, none⟩) 6 6, .slice (some ⟨b2, 0, none⟩) 6 6, .slice (some ⟨b3, 0, none⟩) 6 6, .slice (some ⟨b4, 0, none⟩) 12 12, .int .i64 0, .int .i64 0] 29) = V at *
  rw [hgs] at SR NB
  rw [hgs]
  clear hV hgs
  have c0 := cell_of_row _ _ 0 _ _ _ SR.out
  have c1 := cell_of_row _ _ 1 _ _ _ SR.out
  have c2 := cell_of_row _ _ 2 _ _ _ SR.out
  have c3 := cell_of_row _ _ 3 _ _ _ SR.out
  have c4 := cell_of_row _ _ 4 _ _ _ SR.out
  have c5 := cell_of_row _ _ 5 _ _ _ SR.out
  have I1 := hid (rowIs.fl (f := fun _ => 0) R1.out (fun _ _ => by decide))
  have I2 := hid (rowIs.in R2.out (fun i _ => by unfold lkW; split <;> omega))
  have I4 := hid (rowIs.fl (f := fun _ => 0) R4.out (fun _ _ => by decide))
  have AL := hid ((HA.out 1 gb 1 4602678819172646912 4607182418800017408 0 0 false none 0 0 (some ⟨b1, 0, none⟩) 6 6 (fun _ => 0) (some ⟨b2, 0, none⟩) 6 6 lkW (some ⟨b3, 0, none⟩) 6 6 (some ⟨b4, 0, none⟩) 12 12 (fun _ => 0) 0 0 V (by omega) (G1.out.to AV.out) I1.out I2.out I4.out ⟨by decide, by decide, by decide⟩).1 ⟨rfl, rfl, rfl, rfl⟩)
  go_wp2_with fail
  refine AL.out.mono ?_
  rintro e9 v3 ⟨u, rfl, k3, o3⟩
  obtain ⟨bl, cap, Fl, rfl, hB, h1, h2, rl, hf⟩ := ownG_two (n := 12) o3 (by omega)
  have A3 : Hid (Ab v1 v3) := AV.out.call k3
  have S3 := hid (Ab.heap k3 SR.out)
  have T1 := hid (rowIs.ab R1.out k3)
  have T2 := hid (rowIs.ab R2.out k3)
  have T4 := hid (rowIs.ab R4.out k3)
  have N3 : Hid (bl ≠ b1 ∧ bl ≠ b2) := ⟨by have := R1.out.lt; omega, by have := R2.out.lt; omega⟩
  obtain ⟨l0, hl0⟩ : ∃ x, spE 1 4607182418800017408 4602678819172646912 0 (fun _ => 0) lkW (fun _ => 0) 0 = x := ⟨_, rfl⟩
  have d0 : flt l0 0 = true := by rw [← hl0]; exact lf_0
  have E0 : Hid (v3.cell? ⟨bl, 0, none⟩ = some (.float .f64 l0)) := by
    have h := rl.cell (i := 0) (by omega)
    rw [hf 0 (by omega), hl0] at h
    exact h
  have E1 : Hid (v3.cell? ⟨bl, 1, none⟩ = some (.float .f64 0)) := by
    have h := rl.cell (i := 1) (by omega)
    rw [hf 1 (by omega), lf_1] at h
    exact h
  clear o3 hB h2 rl hf k3 AL hl0 I1 I2 I4 R1 R2 R4 SR AV c0 c1 c2 c3 c4 c5
  have c0 := cell_of_row _ _ 0 _ _ _ S3.out
  have x1 := E1.out
  go_wp2_with fail
  refine (same16 0 _).mono ?_
  rintro e9 v4 ⟨rfl, hv⟩
  have hv2 := hv.symm
  subst hv2
  clear c0 x1
  have c0 := cell_of_row _ _ 0 _ _ _ S3.out
  have y1 := T1.out.cell (i := 0) (by decide)
  have z1 := T1.out.frozen 0
  go_upto_region 10 with fail
  clear c0 y1 z1
  have S4 : Hid ((v3.setCell ⟨b1, 0, none⟩ (.float .f64 4613937818241073152)).heap[gs]? = some (.cells #[.slice (some ⟨b1, 0, none⟩) 6 6, .slice (some ⟨b2, 0, none⟩) 6 6, .slice (some ⟨b3, 0, none⟩) 6 6, .slice (some ⟨b4, 0, none⟩) 12 12, .int .i64 0, .int .i64 0] 29)) := by show _ = _; rw [heap_set_ne NB.out.2.1]; exact S3.out
  have A4 : Hid (Ab v1 (v3.setCell ⟨b1, 0, none⟩ (.float .f64 4613937818241073152))) := A3.out.setk NB.out.1.1.1 _
  have U1 := hid ((T1.out.set 0 (.float .f64 4613937818241073152)).congr (g := fun i => .float .f64 (lvB i)) (fun i _ => by unfold lvB; by_cases e : i = 0 <;> simp [e]))
  have U2 := hid (T2.out.setOther (a := ⟨b1, 0, none⟩) (Ne.symm NB.out.1.2.1) (.float .f64 4613937818241073152))
  have U4 := hid (T4.out.setOther (a := ⟨b1, 0, none⟩) (Ne.symm NB.out.1.2.2.1) (.float .f64 4613937818241073152))
  have F0 : Hid ((v3.setCell ⟨b1, 0, none⟩ (.float .f64 4613937818241073152)).cell? ⟨bl, 0, none⟩ = some (.float .f64 l0)) := by
    show _ = _
    rw [← E0.out]
    exact World.cell?_of_block (Below.heap_setCell _ _ _ _ N3.out.1)
  clear S3 A3 T1 T2 T4 E0 E1
  generalize World.setCell v3 _ _ = v5 at *
  have c0 := cell_of_row _ _ 1 _ _ _ S4.out
  have y1 := U2.out.cell (i := 0) (by decide)
  have z1 := U2.out.frozen 0
  go_upto_region 11 with fail
  clear c0 y1 z1
  have S5 : Hid ((v5.setCell ⟨b2, 0, none⟩ (.int .i64 0)).heap[gs]? = some (.cells #[.slice (some ⟨b1, 0, none⟩) 6 6, .slice (some ⟨b2, 0, none⟩) 6 6, .slice (some ⟨b3, 0, none⟩) 6 6, .slice (some ⟨b4, 0, none⟩) 12 12, .int .i64 0, .int .i64 0] 29)) := by show _ = _; rw [heap_set_ne NB.out.2.2]; exact S4.out
  have A5 : Hid (Ab v1 (v5.setCell ⟨b2, 0, none⟩ (.int .i64 0))) := A4.out.setk NB.out.1.1.2.1 _
  have V1 := hid (U1.out.setOther (a := ⟨b2, 0, none⟩) NB.out.1.2.1 (.int .i64 0))
  have V2 := hid ((U2.out.set 0 (.int .i64 0)).congr (g := fun i => .int .i64 (lvW i)) (fun i _ => by unfold lvW; by_cases e : i = 0 <;> simp [e]))
  have H0 : Hid ((v5.setCell ⟨b2, 0, none⟩ (.int .i64 0)).cell? ⟨bl, 0, none⟩ = some (.float .f64 l0)) := by
    show _ = _
    rw [← F0.out]
    exact World.cell?_of_block (Below.heap_setCell _ _ _ _ N3.out.2)
  have V4 := hid (U4.out.setOther (a := ⟨b2, 0, none⟩) (Ne.symm NB.out.1.2.2.2.1) (.int .i64 0))
  clear S4 A4 U1 U2 U4 F0 N3
  generalize World.setCell v5 _ _ = v6 at *
  have J1 : Hid (∀ v, Ab v6 v → IsFl v (some ⟨b1, 0, none⟩) 6 lvB) := fun v hv => rowIs.fl (rowIs.ab V1.out hv) (fun i _ => by unfold lvB; split <;> decide)
  have J2 : Hid (∀ v, Ab v6 v → IsIn v (some ⟨b2, 0, none⟩) 6 lvW) := fun v hv => rowIs.in (rowIs.ab V2.out hv) (fun i _ => lvW_in i)
  have J4 : Hid (∀ v, Ab v6 v → ∃ Sp, IsFl v (some ⟨b4, 0, none⟩) 12 Sp) := fun v hv => ⟨fun _ => 0, rowIs.fl (rowIs.ab V4.out hv) (fun i _ => by decide)⟩
  have O1 : Hid (∀ v, Ab v6 v → Calls Tryd.prog 15 #[.pointer (some ⟨gb, 0, none⟩), .agg #[.slice (some ⟨b1, 0, none⟩) 6 6, .slice (some ⟨b2, 0, none⟩) 6 6, .slice (some ⟨b3, 0, none⟩) 6 6, .slice (some ⟨b4, 0, none⟩) 12 12, .int .i64 0, .int .i64 0], .int .i64 0] v fun x w' => x = .returned (.bool false) ∧ Below v.heap.size v w') := fun v hv => by
    have h := (HO.out 1 gb (some ⟨b1, 0, none⟩) 6 6 lvB (some ⟨b2, 0, none⟩) 6 6 lvW (some ⟨b3, 0, none⟩) 6 6 (some ⟨b4, 0, none⟩) 12 12 0 0 0 v (by omega) (G1.out.to (A5.out.trans hv)) (J1.out v hv) (J2.out v hv) (J4.out v hv) (by omega)).1 ⟨⟨rfl, rfl, rfl, rfl⟩, by decide⟩
    rw [show (0 : Int).toNat = 0 from rfl, lf_2] at h
    exact h
  have O2 : Hid (∀ v, Ab v6 v → Calls Tryd.prog 15 #[.pointer (some ⟨gb, 0, none⟩), .agg #[.slice (some ⟨b1, 0, none⟩) 6 6, .slice (some ⟨b2, 0, none⟩) 6 6, .slice (some ⟨b3, 0, none⟩) 6 6, .slice (some ⟨b4, 0, none⟩) 12 12, .int .i64 0, .int .i64 0], .int .i64 4] v fun x w' => x = .returned (.bool true) ∧ Below v.heap.size v w') := fun v hv => by
    have h := (HO.out 1 gb (some ⟨b1, 0, none⟩) 6 6 lvB (some ⟨b2, 0, none⟩) 6 6 lvW (some ⟨b3, 0, none⟩) 6 6 (some ⟨b4, 0, none⟩) 12 12 0 0 4 v (by omega) (G1.out.to (A5.out.trans hv)) (J1.out v hv) (J2.out v hv) (J4.out v hv) (by omega)).1 ⟨⟨rfl, rfl, rfl, rfl⟩, by decide⟩
    rw [show (4 : Int).toNat = 4 from rfl, lf_3] at h
    exact h
  have x0 := H0.out
  have c0 := cell_of_row _ _ 0 _ _ _ S5.out
  have c1 := cell_of_row _ _ 1 _ _ _ S5.out
  have c2 := cell_of_row _ _ 2 _ _ _ S5.out
  have c3 := cell_of_row _ _ 3 _ _ _ S5.out
  have c4 := cell_of_row _ _ 4 _ _ _ S5.out
  have c5 := cell_of_row _ _ 5 _ _ _ S5.out
  go_wp2_with fail
  refine (O1.out _ (Ab.refl _)).mono ?_
  rintro e9 v7 ⟨rfl, k7⟩
  have A7 : Hid (Ab v6 v7) := k7
  have S7 := hid (Ab.heap k7 S5.out)
  clear k7 c0 c1 c2 c3 c4 c5 x0
  have c0 := cell_of_row _ _ 0 _ _ _ S7.out
  have c1 := cell_of_row _ _ 1 _ _ _ S7.out
  have c2 := cell_of_row _ _ 2 _ _ _ S7.out
  have c3 := cell_of_row _ _ 3 _ _ _ S7.out
  have c4 := cell_of_row _ _ 4 _ _ _ S7.out
  have c5 := cell_of_row _ _ 5 _ _ _ S7.out
  go_wp2_with fail
  refine (O2.out _ A7.out).mono ?_
  rintro e9 v8 ⟨rfl, k8⟩
  have A8 : Hid (Ab v6 v8) := A7.out.call k8
  clear k8 c0 c1 c2 c3 c4 c5
  go_wp2
  go_ret
  exact ⟨rfl, AW1.out.trans (A5.out.trans A8.out)⟩
end Fc
end Go.Proofs.YtpfoohpncbkkfaaDoor

namespace Go.Proofs.YtpfoohpncbkkfaaDoor
open Go.RowKit Tf Cu Go.Deep
theorem setCells_row {b : Nat} {t : TypeId} {N : Nat} : ∀ (news : List Value) (n : Nat) (f : Nat → Value) (w : World), w.rowIs b t N f → n + news.length ≤ N → (w.setCells b n news).rowIs b t N (fun j => if n ≤ j then (news[j - n]?).getD (f j) else f j) ∧ Abx w b N t (w.setCells b n news)
  | [], n, f, w, h, _ => by
    refine ⟨h.congr (fun i _ => by simp), ?_⟩
    obtain ⟨c, hb, hn, _⟩ := h
    exact (Ab.refl w).x hn hb
  | x :: xs, n, f, w, h, hn => by
    rw [List.length_cons] at hn
    have h1 := h.set n x
    obtain ⟨r1, r2⟩ := setCells_row xs (n + 1) _ _ h1 (by omega)
    refine ⟨r1.congr (fun j _ => ?_), ?_⟩
    · by_cases c : n ≤ j
      · by_cases c2 : j = n
        · subst c2
          simp [show ¬ j + 1 ≤ j by omega]
        · have e : j - n = (j - (n + 1)) + 1 := by omega
          simp [c, c2, show n + 1 ≤ j by omega, e]
      · simp [c, show ¬ n + 1 ≤ j by omega, show ¬ j = n by omega]
    · obtain ⟨c, hb, hc, _⟩ := h
      have a1 : Abx w b N t (w.setCell ⟨b, n, none⟩ x) := ((Ab.refl w).x hc hb).set n x
      obtain ⟨⟨p1, p2, p3, p4, p5⟩, _⟩ := a1
      obtain ⟨⟨q1, q2, q3, q4, q5⟩, q6⟩ := r2
      exact ⟨⟨q1.trans p1, q2.trans p2, q3.trans p3, Nat.le_trans p4 q4, fun k hk hne => (q5 k (by omega) hne).trans (p5 k hk hne)⟩, q6⟩
theorem step_app {P : Program} {ops : Array Oper} {o : Oper} {a : Act} {w : World} {K : Act → World → Prop} {Q : Exit → Act → World → Prop} {E : Prop} (hgd : o.guard = none) (s x : Operand) (t : TypeId)
    (ho : o.op = .call { callee := .builtin .append, args := #[s, x], argTypes := #[t, t] })
    (e : TypeId) (i : TypeInfo) (ht : P.underlying t = some (.slice e)) (hi : P.info? e = some i) (hsz : i.size = 1)
    (b n cap : Nat) (f : Nat → Value) (hs : a.eval s = .slice (some ⟨b, 0, none⟩) n cap) (row : w.rowIs b e cap f)
    (src : Value) (m : Nat) (news : List Value) (hx : a.eval x = src) (hsrc : Src P 1 t src m news w) (hroom : n + m ≤ cap) (nm : Nat) (hnm : n + m = nm)
    (h : ∀ w', w'.rowIs b e cap (fun j => if n ≤ j then (news[j - n]?).getD (f j) else f j) → Abx w b cap e w' → K (a.put o.dst (.slice (some ⟨b, 0, none⟩) nm cap)) w') :
    if Region.wanted o (yielded ops a.tmps) = true then Oper.wp P o a w K Q else E := by
  subst hnm
  have hw : Region.wanted o (yielded ops a.tmps) = true := by simp [Region.wanted, hgd]
  rw [if_pos hw]
  have hl : news.length = m := by have := hsrc.newsLen; omega
  have hr := run_append_room_src (P := P) w t t o.type e i ht hi b 0 n cap src m news (by rw [hsz]; exact hsrc) hroom
    (fun j hj => by rw [hsz]; simp only [Nat.zero_add, Nat.mul_one]; rw [row.cell (by omega)]; rfl) (fun j _ => by rw [hsz]; exact row.frozen _)
  rw [hsz, Nat.zero_add, Nat.mul_one] at hr
  obtain ⟨r1, r2⟩ := setCells_row news n f w row (by omega)
  unfold Oper.wp execOp
  simp only [ho, resolve, invoke, builtin, Sem.run_bind, Sem.run_pure, Result.andThen_ok, List.map_toArray, List.map_cons, List.map_nil, hs, hx, hr]
  exact h _ r1 r2
theorem info_f13 : ∃ i, Tryd.prog.info? 22 = some i ∧ i.size = 1 := by
  have h := infoF64
  cases e : Tryd.prog.info? 22 with
  | none => rw [e] at h; cases h
  | some i =>
    rw [e] at h
    simp at h
    exact ⟨i, rfl, h.2.1⟩
theorem info_i13 : ∃ i, Tryd.prog.info? 2 = some i ∧ i.size = 1 := by
  have h := info64
  cases e : Tryd.prog.info? 2 with
  | none => rw [e] at h; cases h
  | some i =>
    rw [e] at h
    simp at h
    exact ⟨i, rfl, h.2.1⟩
theorem src_fl {w : World} {pb : Option Addr} {L : Nat} {B : Nat → Nat} (h : IsFl w pb L B) (cb : Nat) : Src Tryd.prog 1 26 (.slice pb L cb) L ((List.range L).map fun k => Value.float .f64 (B k)) w := by
  have one : ∀ u ∈ (List.range L).map (fun k => Value.float .f64 (B k)), u.oneCell' = true := fun u hu => by
    obtain ⟨k, _, rfl⟩ := List.mem_map.1 hu
    rfl
  cases pb with
  | none =>
    have : L = 0 := by
      rcases Nat.eq_zero_or_pos L with h0 | h0
      · exact h0
      · obtain ⟨_, b, o, h2, _⟩ := h 0 h0
        cases h2
    subst this
    exact Src.ofNil w Tryd.underlying26 cb
  | some a =>
    refine Src.ofSlice w Tryd.underlying26 a L cb _ (by simp) (fun j u hu => ?_) one
    have hj : j < L := by
      rcases Nat.lt_or_ge j L with h1 | h1
      · exact h1
      · rw [List.getElem?_eq_none (by simpa using h1)] at hu; cases hu
    obtain ⟨_, b, o, h2, _, h4⟩ := h j hj
    cases h2
    simp [hj] at hu
    rw [add_off12, ← hu]
    exact h4
theorem src_in {w : World} {pb : Option Addr} {L : Nat} {B : Nat → Int} (h : IsIn w pb L B) (cb : Nat) : Src Tryd.prog 1 27 (.slice pb L cb) L ((List.range L).map fun k => Value.int .i64 (B k)) w := by
  have one : ∀ u ∈ (List.range L).map (fun k => Value.int .i64 (B k)), u.oneCell' = true := fun u hu => by
    obtain ⟨k, _, rfl⟩ := List.mem_map.1 hu
    rfl
  cases pb with
  | none =>
    have : L = 0 := by
      rcases Nat.eq_zero_or_pos L with h0 | h0
      · exact h0
      · obtain ⟨_, b, o, h2, _⟩ := h 0 h0
        cases h2
    subst this
    exact Src.ofNil w Tryd.underlying27 cb
  | some a =>
    refine Src.ofSlice w Tryd.underlying27 a L cb _ (by simp) (fun j u hu => ?_) one
    have hj : j < L := by
      rcases Nat.lt_or_ge j L with h1 | h1
      · exact h1
      · rw [List.getElem?_eq_none (by simpa using h1)] at hu; cases hu
    obtain ⟨_, b, o, h2, _, h4⟩ := h j hj
    cases h2
    simp [hj] at hu
    rw [add_off12, ← hu]
    exact h4
/-- a copied list: the numbers, the mark, noughts -/
def mkF (L : Nat) (g : Nat → Value) (m z : Value) (j : Nat) : Value := if j < L then g j else if j = L then m else z
theorem mk_two (L : Nat) (g : Nat → Value) (m z : Value) (j : Nat) :
    (if L ≤ j then ([m][j - L]?).getD (if 0 ≤ j then (((List.range L).map g)[j - 0]?).getD z else z) else (if 0 ≤ j then (((List.range L).map g)[j - 0]?).getD z else z)) = mkF L g m z j := by
  unfold mkF
  by_cases c : j < L
  · simp [c, show ¬ L ≤ j by omega]
  · by_cases c2 : j = L
    · subst c2
      simp
    · have e : j - L = (j - L - 1) + 1 := by omega
      rw [e]
      simp [c, c2, show L ≤ j by omega]
/-- a block of one number, in whatever world -/
theorem src_oneF {w : World} {q x : Nat} (h : w.heap[q]? = some (.cells #[.float .f64 x] 22 (0, 0))) : Src Tryd.prog 1 26 (.slice (some ⟨q, 0, none⟩) 1 1) 1 [.float .f64 x] w :=
  Src.ofSlice w Tryd.underlying26 ⟨q, 0, none⟩ 1 1 [.float .f64 x] rfl (World.news_of_block h) (fun u hu => by simp at hu; subst hu; rfl)
theorem src_oneI {w : World} {q : Nat} {x : Int} (h : w.heap[q]? = some (.cells #[.int .i64 x] 2 (0, 0))) : Src Tryd.prog 1 27 (.slice (some ⟨q, 0, none⟩) 1 1) 1 [.int .i64 x] w :=
  Src.ofSlice w Tryd.underlying27 ⟨q, 0, none⟩ 1 1 [.int .i64 x] rfl (World.news_of_block h) (fun u hu => by simp at hu; subst hu; rfl)
theorem Abx.far {V w w' : World} {g n b N : Nat} {T e : TypeId} (h : Abx V g n T w) (k : Abx w b N e w') (hb : V.heap.size ≤ b) (hg : g < V.heap.size) : Abx V g n T w' := by
  obtain ⟨⟨p1, p2, p3, p4, p5⟩, cs, p6, p7⟩ := h
  obtain ⟨⟨q1, q2, q3, q4, q5⟩, _⟩ := k
  exact ⟨⟨q1.trans p1, q2.trans p2, q3.trans p3, Nat.le_trans p4 q4, fun i hi hne => (q5 i (by omega) (by omega)).trans (p5 i hi hne)⟩, cs, p6, (q5 g (by omega) (by omega)).trans p7⟩
theorem abx_other {w w' : World} {b N q : Nat} {e : TypeId} {o : Obj} (k : Abx w b N e w') (h : w.heap[q]? = some o) (hne : q ≠ b) : w'.heap[q]? = some o := k.heap hne h
theorem make_f13 (L : Nat) (hL : L ≤ 65536) (w : World) : (Instr.makeSlice 26 (.int .i64 0) (.int .i64 ((L : Int) + 9))).run Tryd.prog w = .ok (.slice (some ⟨w.heap.size, 0, none⟩) 0 (L + 9)) (w.alloc (.cells (madeCells #[.float .f64 0] (L + 9)) 22)) := by
  obtain ⟨i, hi, hzz⟩ := Option.map_eq_some_iff.1 infoF64
  simp only [Prod.mk.injEq] at hzz
  obtain ⟨h1, h2, h3⟩ := hzz
  have h := run_make (P := Tryd.prog) w 26 22 i (.float .f64 0) Tryd.underlying26 hi h1 .i64 .i64 0 ((L : Int) + 9) (by omega) (by omega) (by rw [h3]; omega) (by omega)
  rw [h2, Nat.mul_one] at h
  have e : ((L : Int) + 9).toNat = L + 9 := by omega
  rw [e] at h
  exact h
theorem make_i13 (L : Nat) (hL : L ≤ 65536) (w : World) : (Instr.makeSlice 27 (.int .i64 0) (.int .i64 ((L : Int) + 9))).run Tryd.prog w = .ok (.slice (some ⟨w.heap.size, 0, none⟩) 0 (L + 9)) (w.alloc (.cells (madeCells #[.int .i64 0] (L + 9)) 2)) := by
  obtain ⟨i, hi, hzz⟩ := Option.map_eq_some_iff.1 info64
  simp only [Prod.mk.injEq] at hzz
  obtain ⟨h1, h2, h3⟩ := hzz
  have h := run_make (P := Tryd.prog) w 27 2 i (.int .i64 0) Tryd.underlying27 hi h1 .i64 .i64 0 ((L : Int) + 9) (by omega) (by omega) (by rw [h3]; omega) (by omega)
  rw [h2, Nat.mul_one] at h
  have e : ((L : Int) + 9).toNat = L + 9 := by omega
  rw [e] at h
  exact h
theorem wrap9 (L : Nat) (hL : L ≤ 65536) : IntKind.i64.wrap ((L : Int) + 9) = (L : Int) + 9 := by
  rw [IntKind.wrap_i64]
  omega
theorem row_m1 (V : World) (z : Value) (n : Nat) (t : TypeId) : (V.drew.alloc (.cells (madeCells #[z] n) t)).rowIs V.heap.size t n (fun _ => z) := World.rowIs_made V.drew z n t
theorem row_m2 (V : World) (z : Value) (n : Nat) (t : TypeId) (O : Obj) : ((V.drew.alloc (.cells (madeCells #[z] n) t)).alloc O).rowIs V.heap.size t n (fun _ => z) := (World.rowIs_made V.drew z n t).alloc O
theorem row_m3 (V : World) (z : Value) (n : Nat) (t : TypeId) (O : Obj) : ((V.drew.alloc O).alloc (.cells (madeCells #[z] n) t)).rowIs (V.heap.size + 1) t n (fun _ => z) := by
  have h := World.rowIs_made (V.drew.alloc O) z n t
  have e : (V.drew.alloc O).heap.size = V.heap.size + 1 := by
    show (V.heap.push O).size = _
    simp
  rwa [e] at h
theorem blk_m2 (V : World) (M O : Obj) : ((V.drew.alloc M).alloc O).heap[V.heap.size + 1]? = some O := heap_alloc2_new V.drew M O
theorem blk_m3 (V : World) (M O : Obj) : ((V.drew.alloc O).alloc M).heap[V.heap.size]? = some O := heap_alloc2_old V.drew O M
theorem rowIs_abx {V w : World} {b : Nat} {t : TypeId} {n : Nat} {f : Nat → Value} {g m : Nat} {T : TypeId} (h : V.rowIs b t n f) (a : Abx V g m T w) (hne : b ≠ g) : w.rowIs b t n f := h.of_block (a.1.2.2.2.2 b h.lt hne)
end Go.Proofs.YtpfoohpncbkkfaaDoor
