/-
  Some of the texts of this proof, one behind the other.
-/
import Derived.Deep.QuietTactic
import Derived.Test.YtbdjbhdbegiipaaGreatDoorK08
namespace Go.Proofs.YtbdjbhdbegiipaaGreatDoor
open Go.RowKit Tf Cu Go.Deep
attribute [local go_sem] run_bits run_from raw_feq raw_fne raw_flt raw_fgt run_neg run_store_float
/-- the water of the flat sea -/
def lkW (i : Nat) : Int := if i = 1 then 2863311530 else 1431655765
theorem ar13 : ∀ c, c < 6 → arI (ArC 1 c) = 1431655765 := by decide +kernel
/-- behind c rounds, the waters being f -/
def LkR (w : World) (gd g4 b1 b2 b3 b4 : Nat) (f : Nat → Int) (v : World) : Prop :=
  Ab w v ∧ v.heap[g4]? = some (.cells #[.slice (some ⟨b1, 0, none⟩) 6 6, .slice (some ⟨b2, 0, none⟩) 6 6, .slice (some ⟨b3, 0, none⟩) 6 6, .slice (some ⟨b4, 0, none⟩) 12 12, .int .i64 0, .int .i64 0] 29) ∧ v.heap[gd]? = some (.cells #[.slice none 0 0, .slice none 0 0, .slice none 0 0, .slice none 0 0, .int .i64 0, .int .i64 0] 29) ∧ v.rowIs b1 22 6 (fun _ => .float .f64 0) ∧ v.rowIs b2 2 6 (fun i => .int .i64 (f i)) ∧ v.rowIs b3 2 6 (fun _ => .int .i64 0) ∧ v.rowIs b4 22 12 (fun _ => .float .f64 0)
def LkI (w : World) (gd g4 b1 b2 b3 b4 c : Nat) (v : World) : Prop := LkR w gd g4 b1 b2 b3 b4 (fun i => if i < c then lkW i else 0) v
theorem LkR.to2 {w : World} {gd g4 b1 b2 b3 b4 : Nat} {f : Nat → Int} {v v' : World} (h : LkR w gd g4 b1 b2 b3 b4 f v) (a : Ab v v') : LkR w gd g4 b1 b2 b3 b4 f v' := by
  obtain ⟨h1, h2, h3, h4, h5, h6, h7⟩ := h
  exact ⟨h1.trans a, a.heap h2, a.heap h3, rowIs.ab h4 a, rowIs.ab h5 a, rowIs.ab h6 a, rowIs.ab h7 a⟩
theorem LkI.to {w : World} {gd g4 b1 b2 b3 b4 c : Nat} {v v' : World} (h : LkI w gd g4 b1 b2 b3 b4 c v) (a : Ab v v') : LkR w gd g4 b1 b2 b3 b4 (fun i => if i < c then lkW i else 0) v' := LkR.to2 h a
theorem LkR.fin {w : World} {gd g4 b1 b2 b3 b4 c : Nat} {f : Nat → Int} {v : World} (h : LkR w gd g4 b1 b2 b3 b4 f v) (e : ∀ i, f i = if i < c then lkW i else 0) : LkI w gd g4 b1 b2 b3 b4 c v := by
  obtain ⟨h1, h2, h3, h4, h5, h6, h7⟩ := h
  exact ⟨h1, h2, h3, h4, h5.congr (fun i _ => by dsimp only; rw [e i]), h6, h7⟩
theorem LkR.set {w : World} {gd g4 b1 b2 b3 b4 : Nat} {f : Nat → Int} {v : World} (h : LkR w gd g4 b1 b2 b3 b4 f v) (nn : g4 ≠ b2 ∧ b1 ≠ b2 ∧ b3 ≠ b2 ∧ b4 ≠ b2 ∧ b1 ≠ b4 ∧ b3 ≠ b4) (hl : gd + 1 ≤ b1 ∧ gd + 1 ≤ b2 ∧ gd + 1 ≤ b3 ∧ gd + 1 ≤ b4 ∧ gd + 1 ≤ g4) (c : Nat) (x : Int) (hw : w.heap.size ≤ gd) : LkR w gd g4 b1 b2 b3 b4 (fun i => if i = c then x else f i) (v.setCell ⟨b2, c, none⟩ (.int .i64 x)) := by
  obtain ⟨h1, h2, h3, h4, h5, h6, h7⟩ := h
  refine ⟨h1.setk (by omega) _, by rw [heap_set_ne nn.1]; exact h2, by rw [heap_set_ne (by omega)]; exact h3, h4.setOther nn.2.1 _, (h5.set c _).congr (fun i _ => ?_), h6.setOther nn.2.2.1 _, h7.setOther nn.2.2.2.1 _⟩
  by_cases e : i = c
  · simp [e]
  · simp [e]
set_option maxRecDepth 100000 in
set_option maxHeartbeats 64000000 in
theorem lake13_at {gb : Nat} (w : World) (g : GridOf 1 gb w) :
    Calls Tryz.prog 11 #[.pointer (some ⟨gb, 0, none⟩)] w fun e w' => ∃ b1 b2 b3 b4, e = .returned (.agg #[.slice (some ⟨b1, 0, none⟩) 6 6, .slice (some ⟨b2, 0, none⟩) 6 6, .slice (some ⟨b3, 0, none⟩) 6 6, .slice (some ⟨b4, 0, none⟩) 12 12, .int .i64 0, .int .i64 0]) ∧ Below w.heap.size w w' ∧ w'.rowIs b1 22 6 (fun _ => .float .f64 0) ∧ w'.rowIs b2 2 6 (fun i => .int .i64 (lkW i)) ∧ w'.rowIs b3 2 6 (fun _ => .int .i64 0) ∧ w'.rowIs b4 22 12 (fun _ => .float .f64 0) ∧ (w.heap.size ≤ b4 ∧ b1 ≠ b4 ∧ b2 ≠ b4 ∧ b3 ≠ b4) := by
  have CC : Hid (∀ v, Ab w v → Calls Tryz.prog 27 #[.pointer (some ⟨gb, 0, none⟩)] v fun e w' => e = .returned (.int .i64 6) ∧ w' = v) := fun v hv => gCells_at (g.to hv)
  have CE : Hid (∀ v, Ab w v → Calls Tryz.prog 23 #[.pointer (some ⟨gb, 0, none⟩)] v fun e w' => e = .returned (.int .i64 12) ∧ w' = v) := fun v hv => gEdges_at (g.to hv)
  have M1 : ∀ v : World, (Instr.makeSlice 26 (.int .i64 6) (.int .i64 6)).run Tryz.prog v = .ok (.slice (some ⟨v.heap.size, 0, none⟩) 6 6) (v.alloc (Obj.cells (madeCells #[.float .f64 0] 6) 22)) := fun v => by
    exact run_make_row' (P := Tryz.prog) 26 22 (.float .f64 0) 8 Tryz.underlying26 infoF64 rfl .i64 .i64 6 (by omega) (by omega) v
  have M2 : ∀ v : World, (Instr.makeSlice 27 (.int .i64 6) (.int .i64 6)).run Tryz.prog v = .ok (.slice (some ⟨v.heap.size, 0, none⟩) 6 6) (v.alloc (Obj.cells (madeCells #[.int .i64 0] 6) 2)) := fun v => by
    exact run_make_row' (P := Tryz.prog) 27 2 (.int .i64 0) 8 Tryz.underlying27 info64 rfl .i64 .i64 6 (by omega) (by omega) v
  have M3 : ∀ v : World, (Instr.makeSlice 26 (.int .i64 12) (.int .i64 12)).run Tryz.prog v = .ok (.slice (some ⟨v.heap.size, 0, none⟩) 12 12) (v.alloc (Obj.cells (madeCells #[.float .f64 0] 12) 22)) := fun v => by
    exact run_make_row' (P := Tryz.prog) 26 22 (.float .f64 0) 8 Tryz.underlying26 infoF64 rfl .i64 .i64 12 (by omega) (by omega) v
  have AL : ∀ v : World, (Instr.alloc 29 true (.tuple #[])).run Tryz.prog v = .ok (.pointer (some ⟨v.heap.size, 0, none⟩)) (v.alloc (.cells #[.slice none 0 0, .slice none 0 0, .slice none 0 0, .slice none 0 0, .int .i64 0, .int .i64 0] 29)) := fun v => by
    simp [go_sem]
  have A0 : Hid (Ab w (w.alloc (.cells #[.slice none 0 0, .slice none 0 0, .slice none 0 0, .slice none 0 0, .int .i64 0, .int .i64 0] 29))) := bl1 _ _
  go_enter Tryz.func11, Tryz.ntmps11
  go_wp2_with fail
  refine (CC.out _ A0.out).mono ?_
  rintro e9 vq ⟨rfl, hvq⟩
  have hvq2 := hvq.symm
  subst hvq2
  go_wp2_with fail
  refine (CE.out _ A0.out).mono ?_
  rintro e9 vq ⟨rfl, hvq⟩
  have hvq2 := hvq.symm
  subst hvq2
  go_upto_region 4 with fail
  generalize hW : World.alloc w _ = W at *
  go_cut [4] from 22 to 31 (fun s4 wx => ∃ g4 b1 b2 b3 b4, s4 = .pointer (some ⟨g4, 0, none⟩) ∧ Ab W wx ∧ wx.heap[g4]? = some (.cells #[.slice (some ⟨b1, 0, none⟩) 6 6, .slice (some ⟨b2, 0, none⟩) 6 6, .slice (some ⟨b3, 0, none⟩) 6 6, .slice (some ⟨b4, 0, none⟩) 12 12, .int .i64 0, .int .i64 0] 29) ∧ wx.heap[b1]? = some (Obj.cells (madeCells #[.float .f64 0] 6) 22) ∧ wx.heap[b2]? = some (Obj.cells (madeCells #[.int .i64 0] 6) 2) ∧ wx.heap[b3]? = some (Obj.cells (madeCells #[.int .i64 0] 6) 2) ∧ wx.heap[b4]? = some (Obj.cells (madeCells #[.float .f64 0] 12) 22) ∧ W.heap.size ≤ g4 ∧ W.heap.size ≤ b1 ∧ W.heap.size ≤ b2 ∧ W.heap.size ≤ b3 ∧ W.heap.size ≤ b4 ∧ g4 ≠ b1 ∧ g4 ≠ b2 ∧ g4 ≠ b3 ∧ g4 ≠ b4 ∧ b1 ≠ b2 ∧ b1 ≠ b3 ∧ b1 ≠ b4 ∧ b2 ≠ b3 ∧ b2 ≠ b4 ∧ b3 ≠ b4)
  case first =>
    obtain ⟨UU, E, hF1, hF2⟩ := cls W.drew
    have HU := hid hF2
    clear hF1 hF2
    refine region_free 11 (fun k => if k = 1 then some ((Obj.cells (madeCells #[.float .f64 0] 6) 22), fun b => .slice (some ⟨b, 0, none⟩) 6 6) else if k = 3 then some ((Obj.cells (madeCells #[.int .i64 0] 6) 2), fun b => .slice (some ⟨b, 0, none⟩) 6 6) else if k = 5 then some ((Obj.cells (madeCells #[.int .i64 0] 6) 2), fun b => .slice (some ⟨b, 0, none⟩) 6 6) else if k = 8 then some ((Obj.cells (madeCells #[.float .f64 0] 12) 22), fun b => .slice (some ⟨b, 0, none⟩) 12 12) else if k = 10 then some ((.cells #[.slice none 0 0, .slice none 0 0, .slice none 0 0, .slice none 0 0, .int .i64 0, .int .i64 0] 29), fun b => .pointer (some ⟨b, 0, none⟩)) else none) (by kernel_rfl) (by kernel_rfl) (by kernel_rfl) ?_
    simp only [List.take_succ_cons, List.take_zero]
    refine wpFree_one HU (by rfl) (by rfl) ?_
    go_big_quiet_step (with_reducible rfl)
    refine wpQuiet_nil ?_
    refine wpFree_lay (ob := (Obj.cells (madeCells #[.float .f64 0] 6) 22)) (mk := fun b => .slice (some ⟨b, 0, none⟩) 6 6) (by rfl) (by kernel_rfl) ?_ ?_
    · refine lay_make (vx := .int .i64 6) (vy := .int .i64 6) (ob := (Obj.cells (madeCells #[.float .f64 0] 6) 22)) (mk := fun b => .slice (some ⟨b, 0, none⟩) 6 6) rfl ?_ ?_ ?_
      · rfl
      · rfl
      · exact M1
    intro b1 fb1
    simp only [Act.put, List.setIfInBounds_toArray, List.set_cons_succ, List.set_cons_zero]
    refine wpFree_one HU (by rfl) (by rfl) ?_
    go_big_quiet_step (with_reducible rfl)
    refine wpQuiet_nil ?_
    refine wpFree_lay (ob := (Obj.cells (madeCells #[.int .i64 0] 6) 2)) (mk := fun b => .slice (some ⟨b, 0, none⟩) 6 6) (by rfl) (by kernel_rfl) ?_ ?_
    · refine lay_make (vx := .int .i64 6) (vy := .int .i64 6) (ob := (Obj.cells (madeCells #[.int .i64 0] 6) 2)) (mk := fun b => .slice (some ⟨b, 0, none⟩) 6 6) rfl ?_ ?_ ?_
      · rfl
      · rfl
      · exact M2
    intro b2 fb2
    simp only [Act.put, List.setIfInBounds_toArray, List.set_cons_succ, List.set_cons_zero]
    refine wpFree_one HU (by rfl) (by rfl) ?_
    go_big_quiet_step (with_reducible rfl)
    refine wpQuiet_nil ?_
    refine wpFree_lay (ob := (Obj.cells (madeCells #[.int .i64 0] 6) 2)) (mk := fun b => .slice (some ⟨b, 0, none⟩) 6 6) (by rfl) (by kernel_rfl) ?_ ?_
    · refine lay_make (vx := .int .i64 6) (vy := .int .i64 6) (ob := (Obj.cells (madeCells #[.int .i64 0] 6) 2)) (mk := fun b => .slice (some ⟨b, 0, none⟩) 6 6) rfl ?_ ?_ ?_
      · rfl
      · rfl
      · exact M2
    intro b3 fb3
    simp only [Act.put, List.setIfInBounds_toArray, List.set_cons_succ, List.set_cons_zero]
    refine wpFree_one HU (by rfl) (by rfl) ?_
    go_big_quiet_step (with_reducible rfl)
    refine wpQuiet_nil ?_
    refine wpFree_one HU (by rfl) (by rfl) ?_
    go_big_quiet_step (with_reducible rfl)
    refine wpQuiet_nil ?_
    refine wpFree_lay (ob := (Obj.cells (madeCells #[.float .f64 0] 12) 22)) (mk := fun b => .slice (some ⟨b, 0, none⟩) 12 12) (by rfl) (by kernel_rfl) ?_ ?_
    · refine lay_make (vx := .int .i64 12) (vy := .int .i64 12) (ob := (Obj.cells (madeCells #[.float .f64 0] 12) 22)) (mk := fun b => .slice (some ⟨b, 0, none⟩) 12 12) rfl ?_ ?_ ?_
      · rfl
      · rfl
      · exact M3
    intro b4 fb4
    simp only [Act.put, List.setIfInBounds_toArray, List.set_cons_succ, List.set_cons_zero]
    refine wpFree_one HU (by rfl) (by rfl) ?_
    go_big_quiet_step (with_reducible rfl)
    refine wpQuiet_nil ?_
    refine wpFree_lay (ob := (.cells #[.slice none 0 0, .slice none 0 0, .slice none 0 0, .slice none 0 0, .int .i64 0, .int .i64 0] 29)) (mk := fun b => .pointer (some ⟨b, 0, none⟩)) (by rfl) (by kernel_rfl) ?_ ?_
    · refine lay_alloc (ob := (.cells #[.slice none 0 0, .slice none 0 0, .slice none 0 0, .slice none 0 0, .int .i64 0, .int .i64 0] 29)) (mk := fun b => .pointer (some ⟨b, 0, none⟩)) rfl ?_
      · exact AL
    intro g4 fg4
    simp only [Act.put, List.setIfInBounds_toArray, List.set_cons_succ, List.set_cons_zero]

    refine wpFree_nil ?_
    intro wz hz
    have h1 := hz.at (i := 1) (b := b1) (ob := (Obj.cells (madeCells #[.float .f64 0] 6) 22)) (by rfl) (by rfl)
    have h2 := hz.at (i := 3) (b := b2) (ob := (Obj.cells (madeCells #[.int .i64 0] 6) 2)) (by rfl) (by rfl)
    have h3 := hz.at (i := 5) (b := b3) (ob := (Obj.cells (madeCells #[.int .i64 0] 6) 2)) (by rfl) (by rfl)
    have h4 := hz.at (i := 8) (b := b4) (ob := (Obj.cells (madeCells #[.float .f64 0] 12) 22)) (by rfl) (by rfl)
    have h5 := hz.at (i := 10) (b := g4) (ob := (.cells #[.slice none 0 0, .slice none 0 0, .slice none 0 0, .slice none 0 0, .int .i64 0, .int .i64 0] 29)) (by rfl) (by rfl)
    have n12 : b1 ≠ b2 := fb2.2 1 b1 (by rfl)
    have n13 : b1 ≠ b3 := fb3.2 1 b1 (by rfl)
    have n14 : b1 ≠ b4 := fb4.2 1 b1 (by rfl)
    have n15 : b1 ≠ g4 := fg4.2 1 b1 (by rfl)
    have n23 : b2 ≠ b3 := fb3.2 3 b2 (by rfl)
    have n24 : b2 ≠ b4 := fb4.2 3 b2 (by rfl)
    have n25 : b2 ≠ g4 := fg4.2 3 b2 (by rfl)
    have n34 : b3 ≠ b4 := fb4.2 5 b3 (by rfl)
    have n35 : b3 ≠ g4 := fg4.2 5 b3 (by rfl)
    have n45 : b4 ≠ g4 := fg4.2 8 b4 (by rfl)
    have AZ : Ab W wz := (Ab.refl W).drew.trans hz.1
    have RZ := hid h5.1
    have HH := hid (And.intro h1 (And.intro h2 (And.intro h3 (And.intro h4 h5))))
    have NN := hid (And.intro n12 (And.intro n13 (And.intro n14 (And.intro n15 (And.intro n23 (And.intro n24 (And.intro n25 (And.intro n34 (And.intro n35 n45)))))))))
    have HAZ := hid AZ
    clear hz fb1 fb2 fb3 fb4 fg4 h1 h2 h3 h4 h5 n12 n13 n14 n15 n23 n24 n25 n34 n35 n45 AZ HU
    clear E UU
    have t0 := cell_of_row _ _ 0 _ _ _ RZ.out
    have t1 := cell_of_row _ _ 1 _ _ _ RZ.out
    have t2 := cell_of_row _ _ 2 _ _ _ RZ.out
    have t3 := cell_of_row _ _ 3 _ _ _ RZ.out
    have t4 := cell_of_row _ _ 4 _ _ _ RZ.out
    have t5 := cell_of_row _ _ 5 _ _ _ RZ.out
    have f0 := free_row RZ.out 0
    have f1 := free_row RZ.out 1
    have f2 := free_row RZ.out 2
    have f3 := free_row RZ.out 3
    have f4 := free_row RZ.out 4
    have f5 := free_row RZ.out 5
    simp only [List.drop_succ_cons, List.drop_zero]
    go_wp2_with fail
    go_meet
    obtain ⟨⟨k1, l1⟩, ⟨k2, l2⟩, ⟨k3, l3⟩, ⟨k4, l4⟩, ⟨k5, l5⟩⟩ := HH.out
    obtain ⟨n12, n13, n14, n15, n23, n24, n25, n34, n35, n45⟩ := NN.out
    have st : ∀ (b : Nat) (o : Obj), b ≠ g4 → wz.heap[b]? = some o → ∀ x0 x1 x2 x3 x4 x5, ((((((wz.setCell ⟨g4, 0, none⟩ x0).setCell ⟨g4, 1, none⟩ x1).setCell ⟨g4, 2, none⟩ x2).setCell ⟨g4, 3, none⟩ x3).setCell ⟨g4, 4, none⟩ x4).setCell ⟨g4, 5, none⟩ x5).heap[b]? = some o := fun b o hb h x0 x1 x2 x3 x4 x5 => by
      rw [heap_set_ne hb, heap_set_ne hb, heap_set_ne hb, heap_set_ne hb, heap_set_ne hb, heap_set_ne hb]
      exact h
    refine ⟨g4, b1, b2, b3, b4, rfl, ?_, row6 k5, st b1 _ n15 k1 _ _ _ _ _ _, st b2 _ n25 k2 _ _ _ _ _ _, st b3 _ n35 k3 _ _ _ _ _ _, st b4 _ n45 k4 _ _ _ _ _ _, l5, l1, l2, l3, l4, Ne.symm n15, Ne.symm n25, Ne.symm n35, Ne.symm n45, n12, n13, n14, n23, n24, n34⟩
    exact (((((HAZ.out.setk l5 _).setk l5 _).setk l5 _).setk l5 _).setk l5 _).setk l5 _
  case rest =>
    obtain ⟨g4, b1, b2, b3, b4, rfl, a4, r4, m1, m2, m3, m4, l5, l1, l2, l3, l4, n51, n52, n53, n54, n12, n13, n14, n23, n24, n34⟩ := hcut
    obtain ⟨gd, hgd⟩ : ∃ x, w.heap.size = x := ⟨_, rfl⟩
    have HL : Hid (gd + 1 ≤ b1 ∧ gd + 1 ≤ b2 ∧ gd + 1 ≤ b3 ∧ gd + 1 ≤ b4 ∧ gd + 1 ≤ g4) := by
      rw [← hW, size1] at l1 l2 l3 l4 l5
      rw [← hgd]
      exact ⟨l1, l2, l3, l4, l5⟩
    have NN : Hid (g4 ≠ b2 ∧ b1 ≠ b2 ∧ b3 ≠ b2 ∧ b4 ≠ b2 ∧ b1 ≠ b4 ∧ b3 ≠ b4) := ⟨n52, n12, Ne.symm n23, Ne.symm n24, n14, n34⟩
    have ZR : Hid (W.heap[gd]? = some (.cells #[.slice none 0 0, .slice none 0 0, .slice none 0 0, .slice none 0 0, .int .i64 0, .int .i64 0] 29)) := by rw [← hW, ← hgd]; exact heap_alloc_new _ _
    have AWW : Hid (Ab w W) := A0.out
    have FI := hid (show LkI w gd g4 b1 b2 b3 b4 0 wc from ⟨AWW.out.trans a4, r4, Ab.heap a4 ZR.out, made_row m1, (made_row m2).congr (fun i _ => by simp), made_row m3, made_row m4⟩)
    have HG := hid g
    have HN : Hid (w.heap.size = gd) := hgd
    rw [hgd]
    clear a4 r4 m1 m2 m3 m4 l1 l2 l3 l4 l5 n51 n52 n53 n54 n12 n13 n14 n23 n24 n34 hgd hW ZR AWW g CC CE M1 M2 M3 AL A0
    go_wp2
    go_loopw [5] (fun iv wr => ∃ c : Nat, c ≤ 6 ∧ iv = .int .i64 (c : Nat) ∧ LkI w gd g4 b1 b2 b3 b4 c wr) (fun iv _ => 6 - (intOf iv).toNat)
    case atStart => exact ⟨0, by omega, rfl, FI.out⟩
    case round =>
      obtain ⟨c, hc, rfl, F⟩ := hrel
      clear FI
      have FF := hid F
      clear F
      by_cases hc6 : c < 6
      · have hc' : (c : Int) < 6 := by omega
        have HC6 := hid hc6
        have AR : Hid (∀ v, Ab w v → Calls Tryz.prog 28 #[.pointer (some ⟨gb, 0, none⟩), .int .i64 (c : Nat)] v fun e w' => e = .returned (.int .i64 1431655765) ∧ Below v.heap.size v w') := fun v hv => by
          have h := gArea_ok (n := 1) (by decide) hc6 (HG.out.to hv)
          rwa [ar13 c hc6] at h
        clear hc6
        go_upto_region 8 with fail
        obtain ⟨UU, E, hF1, hF2⟩ := cls wr
        have HU := hid hF2
        have HU1 := hid hF1
        have x1 : ∀ u, (E u).cell? ⟨g4, 1, none⟩ = some (.slice (some ⟨b2, 0, none⟩) 6 6) := fun u => cell_of_row _ _ 1 _ _ _ (FF.out.to (hF1 u)).2.1
        have HX : Hid (∀ u, Ab w (E u)) := fun u => (FF.out.to (hF1 u)).1
        have DD0 := HU.out _ (Ab.refl wr).drew
        clear hF1 hF2
        refine region_tail 7 E (by kernel_rfl) (by kernel_rfl) (by kernel_rfl) DD0 ?_
        simp only [List.take_succ_cons, List.take_zero, List.drop_succ_cons, List.drop_zero]
        repeat (go_big_quiet_step (first
          | (with_reducible rfl)
          | (go_at_call 28; exact calls_cls HU HU1 (AR.out _ (HX.out _)))))
        refine wpQuiet_nil ?_
        intro vz hwz
        obtain ⟨u0, hu⟩ := hwz
        have AZ : Hid (Ab wr vz) := by rw [hu]; exact HU1.out u0
        clear hu u0
        clear HU HU1 HX DD0 x1
        clear E UU
        have FZ := hid (FF.out.to AZ.out)
        have z1 := FZ.out.2.2.2.2.1.cell HC6.out
        have z2 := FZ.out.2.2.2.2.1.frozen c
        go_upto_region 9 with fail
        have F2 := hid (FZ.out.set NN.out HL.out c 1431655765 (by rw [HN.out]; exact Nat.le_refl _))
        clear z1 z2 FZ FF AZ
        generalize World.setCell vz _ _ = v2 at *
        by_cases c1 : c = 1
        · subst c1
          have y1 := cell_of_row _ _ 1 _ _ _ F2.out.2.1
          have p1 : v2.cell? ⟨b2, 1, none⟩ = some (.int .i64 1431655765) := by rw [F2.out.2.2.2.2.1.cell HC6.out]; simp
          have p2 := F2.out.2.2.2.2.1.frozen 1
          go_upto_region 10 with fail
          clear y1 p1 p2
          obtain ⟨UU, E, hF1, hF2⟩ := cls v2
          have HU := hid hF2
          have HU1 := hid hF1
          have x1 : ∀ u, (E u).cell? ⟨g4, 1, none⟩ = some (.slice (some ⟨b2, 0, none⟩) 6 6) := fun u => cell_of_row _ _ 1 _ _ _ ((hF1 u).heap F2.out.2.1)
          have x2 : ∀ u, (E u).cell? ⟨b2, 1, none⟩ = some (.int .i64 1431655765) := fun u => by rw [(rowIs.ab F2.out.2.2.2.2.1 (hF1 u)).cell HC6.out]; simp
          have DD0 := HU.out _ (Ab.refl v2).drew
          clear hF1 hF2
          refine region_tail 10 E (by kernel_rfl) (by kernel_rfl) (by kernel_rfl) DD0 ?_
          simp only [List.take_succ_cons, List.take_zero, List.drop_succ_cons, List.drop_zero]
          repeat (go_big_quiet_step (with_reducible rfl))
          refine wpQuiet_nil ?_
          intro vz hwz
          obtain ⟨u0, hu⟩ := hwz
          have AZ : Hid (Ab v2 vz) := by rw [hu]; exact HU1.out u0
          clear hu u0
          clear HU HU1 DD0 x1 x2
          clear E UU
          have F3 := hid (F2.out.to2 AZ.out)
          have z1 := F3.out.2.2.2.2.1.cell HC6.out
          have z2 := F3.out.2.2.2.2.1.frozen 1
          go_wp2
          refine ⟨⟨2, by omega, by simp, ?_⟩, by simp [intOf]⟩
          exact (F3.out.set NN.out HL.out 1 2863311530 (by rw [HN.out]; exact Nat.le_refl _)).fin (fun i => by
            by_cases e : i = 1
            · simp [e, lkW]
            · by_cases e2 : i < 1
              · have : i < 2 := by omega
                simp [e, e2, this]
              · have : ¬ i < 2 := by omega
                simp [e, e2, this])
        · have c2 : ((c : Int) == 1) = false := by rw [beq_eq_false_iff_ne]; omega
          go_wp2
          refine ⟨⟨c + 1, by have := HC6.out; omega, by simp, ?_⟩, by simp [intOf]; have := HC6.out; omega⟩
          exact F2.out.fin (fun i => by
            by_cases e : i = c
            · subst e
              simp [lkW, c1]
            · by_cases l : i < c
              · simp [e, l, show i < c + 1 by omega]
              · simp [e, l, show ¬ i < c + 1 by omega])
      · have e6 : c = 6 := by omega
        subst e6
        have s0 := cell_of_row _ _ 0 _ _ _ FF.out.2.1
        have s1 := cell_of_row _ _ 1 _ _ _ FF.out.2.1
        have s2 := cell_of_row _ _ 2 _ _ _ FF.out.2.1
        have s3 := cell_of_row _ _ 3 _ _ _ FF.out.2.1
        have s4 := cell_of_row _ _ 4 _ _ _ FF.out.2.1
        have s5 := cell_of_row _ _ 5 _ _ _ FF.out.2.1
        have RZ := FF.out.2.2.1
        have t0 := cell_of_row _ _ 0 _ _ _ RZ
        have t1 := cell_of_row _ _ 1 _ _ _ RZ
        have t2 := cell_of_row _ _ 2 _ _ _ RZ
        have t3 := cell_of_row _ _ 3 _ _ _ RZ
        have t4 := cell_of_row _ _ 4 _ _ _ RZ
        have t5 := cell_of_row _ _ 5 _ _ _ RZ
        have f0 := free_row RZ 0
        have f1 := free_row RZ 1
        have f2 := free_row RZ 2
        have f3 := free_row RZ 3
        have f4 := free_row RZ 4
        have f5 := free_row RZ 5
        have ROW := hid (row6 (x := .slice (some ⟨b1, 0, none⟩) 6 6) (y := .slice (some ⟨b2, 0, none⟩) 6 6) (z := .slice (some ⟨b3, 0, none⟩) 6 6) (p := .slice (some ⟨b4, 0, none⟩) 12 12) (q := .int .i64 0) (r := .int .i64 0) RZ)
        clear RZ
        go_wp2
        have BN : Hid (b1 ≠ gd ∧ b2 ≠ gd ∧ b3 ≠ gd ∧ b4 ≠ gd) := by
          have := HL.out
          exact ⟨by omega, by omega, by omega, by omega⟩
        have G1 := FF.out.2.2.2.1
        have G2 := FF.out.2.2.2.2.1
        have G3 := FF.out.2.2.2.2.2.1
        have G4 := FF.out.2.2.2.2.2.2
        have GA := FF.out.1
        refine bodyPost_ret ?_ rfl ⟨b1, b2, b3, b4, rfl, ?_, ?_, ?_, ?_, ?_, ?_⟩
        · exact results_cell_row Tryz.results11 _ _ gd _ _ (0, 0) _ rfl ROW.out Tryz.underlying29 rfl (by kernel_rfl)
        · exact (((((GA.setk (by rw [HN.out]; omega) _).setk (by rw [HN.out]; omega) _).setk (by rw [HN.out]; omega) _).setk (by rw [HN.out]; omega) _).setk (by rw [HN.out]; omega) _).setk (by rw [HN.out]; omega) _
        · exact (((((G1.setOther BN.out.1 _).setOther BN.out.1 _).setOther BN.out.1 _).setOther BN.out.1 _).setOther BN.out.1 _).setOther BN.out.1 _
        · exact ((((((G2.congr (fun i hi => by simp [hi])).setOther BN.out.2.1 _).setOther BN.out.2.1 _).setOther BN.out.2.1 _).setOther BN.out.2.1 _).setOther BN.out.2.1 _).setOther BN.out.2.1 _
        · exact (((((G3.setOther BN.out.2.2.1 _).setOther BN.out.2.2.1 _).setOther BN.out.2.2.1 _).setOther BN.out.2.2.1 _).setOther BN.out.2.2.1 _).setOther BN.out.2.2.1 _
        · exact (((((G4.setOther BN.out.2.2.2 _).setOther BN.out.2.2.2 _).setOther BN.out.2.2.2 _).setOther BN.out.2.2.2 _).setOther BN.out.2.2.2 _).setOther BN.out.2.2.2 _
        · have := HL.out
          exact ⟨by rw [HN.out]; omega, NN.out.2.2.2.2.1, Ne.symm NN.out.2.2.2.1, NN.out.2.2.2.2.2⟩
end Go.Proofs.YtbdjbhdbegiipaaGreatDoor

namespace Go.Proofs.YtbdjbhdbegiipaaGreatDoor
open Tf Ieee
def Hi (h x : Nat) : Prop := mg x = 0 ∨ (238690780250636288 ≤ mg x ∧ mg x ≤ h)
theorem Hi.md {h x : Nat} (k : Hi h x) (hh : h + 4503599627370496 < 9218868437227405312) : Md x := by
  rcases k with k | k
  · exact .inl k
  · exact .inr ⟨by omega, by omega⟩
theorem mv_52 {r : Nat} (h : 238690780250636288 ≤ r) : ∃ q, mv r = q * 4503599627370496 := by
  unfold mv mag
  have e : (2 : Nat) ^ 52 = 4503599627370496 := by decide
  rw [if_neg (by omega), e]
  obtain ⟨j, hj⟩ : ∃ j, r / 4503599627370496 - 1 = 52 + j := ⟨r / 4503599627370496 - 1 - 52, by omega⟩
  rw [hj, Nat.pow_add, e]
  exact ⟨(4503599627370496 + r % 4503599627370496) * 2 ^ j, by rw [← Nat.mul_assoc, Nat.mul_right_comm]⟩
theorem Hi.sv {h x : Nat} (k : Hi h x) : ∃ q : Int, sv x = q * 4503599627370496 := by
  unfold Tf.sv
  rcases k with k | k
  · rw [k, mv_zero]; exact ⟨0, by cases ng x <;> rfl⟩
  · obtain ⟨q, hq⟩ := mv_52 k.1
    rw [hq]
    cases ng x
    · exact ⟨q, by simp⟩
    · exact ⟨-q, by simp; omega⟩
theorem Hi.abs {h x : Nat} (k : Hi h x) : (Tf.sv x).natAbs ≤ mv h := by
  have : (Tf.sv x).natAbs = mv (mg x) := by unfold Tf.sv; cases ng x <;> simp
  rw [this]
  rcases k with k | k
  · rw [k, mv_zero]; omega
  · exact mv_le.2 k.2
theorem sum_ok {h a b : Nat} (ka : Hi h a) (kb : Hi h b) (h1 : 4503599627370496 ≤ h) (h2 : h + 9007199254740992 < 9218868437227405312) :
    (sv a + sv b = 0 ∨ (4503599627370496 ≤ (sv a + sv b).natAbs ∧ rung 52 0 (sv a + sv b).natAbs + 4503599627370496 ≤ 9218868437227405312)) ∧ rung 52 0 (sv a + sv b).natAbs ≤ h + 4503599627370496 := by
  obtain ⟨p, hp⟩ := ka.sv
  obtain ⟨q, hq⟩ := kb.sv
  have x1 := ka.abs
  have x2 := kb.abs
  have hle : rung 52 0 (sv a + sv b).natAbs ≤ h + 4503599627370496 := by
    refine rung_le (by omega) ?_
    rw [Nat.pow_zero, Nat.mul_one]
    have : mv (h + 4503599627370496) = 2 * mv h := mv_dbl h1
    show _ ≤ mv (h + 4503599627370496)
    omega
  refine ⟨?_, hle⟩
  by_cases c : sv a + sv b = 0
  · exact .inl c
  · refine .inr ⟨?_, by omega⟩
    rw [hp, hq] at c ⊢
    have : p + q ≠ 0 := by
      intro e
      have : p * 4503599627370496 + q * 4503599627370496 = (p + q) * 4503599627370496 := by rw [Int.add_mul]
      rw [this, e] at c
      exact c (by omega)
    omega
/-- a number that is no less than nothing -/
def Ps (h x : Nat) : Prop := Hi h x ∧ x < 9223372036854775808
theorem Ps.lt {h x : Nat} (k : Ps h x) : x < 18446744073709551616 := by have := k.2; omega
theorem Ps.ng {h x : Nat} (k : Ps h x) : Tf.ng x = false := ng_of_lt k.2
theorem Ps.mg {h x : Nat} (k : Ps h x) : Tf.mg x = x := mg_of_lt k.2
theorem Ps.up {h g x : Nat} (k : Ps h x) (hg : h ≤ g) : Ps g x := ⟨by rcases k.1 with a | a; exact .inl a; exact .inr ⟨a.1, by omega⟩, k.2⟩
theorem Ps.db {h x : Nat} (k : Ps h x) (hh : h + 4503599627370496 < 9218868437227405312) : Ps (h + 4503599627370496) (db x) := by
  have m := k.1.md hh
  have e := db_mg m.w
  have e2 := db_ng m.w k.lt
  rw [k.ng] at e2
  refine ⟨?_, lt_of_ng e2⟩
  unfold Hi
  rw [e]
  rcases k.1 with a | a
  · rw [if_pos a]; exact .inl rfl
  · rw [if_neg (by omega)]; exact .inr ⟨by omega, by omega⟩
theorem plB_db {h a b : Nat} (ka : Ps h a) (kb : Ps h b) (h1 : 4503599627370496 ≤ h) (h2 : h + 9007199254740992 < 9218868437227405312) :
    plB (db a) (db b) = db (plB a b) ∧ Ps (h + 4503599627370496) (plB a b) := by
  have ma := ka.1.md (by omega)
  have mb := kb.1.md (by omega)
  obtain ⟨s1, s2⟩ := sum_ok ka.1 kb.1 h1 h2
  rw [plB_some (add_d _ _ (db_lt ma.w ka.lt) (db_lt mb.w kb.lt) ma.dfin mb.dfin), plB_some (add_d a b ka.lt kb.lt ma.fin mb.fin), db_sv ma ka.lt, db_sv mb kb.lt, ← Int.mul_add, db_ng ma.w ka.lt, rn_dbl _ s1, db_ng mb.w kb.lt]
  refine ⟨rfl, ?_⟩
  have ea : sv a = (mv a : Int) := by unfold sv; rw [ka.ng, ka.mg]; rfl
  have eb : sv b = (mv b : Int) := by unfold sv; rw [kb.ng, kb.mg]; rfl
  have hlt : rn (ng a && ng b) (sv a + sv b) < 9223372036854775808 := by
    rw [ka.ng, ea, eb]
    unfold rn
    have : ¬ ((mv a : Int) + (mv b : Int) < 0) := by omega
    rw [decide_eq_false this]
    simp only [Bool.false_and, ite_self, Bool.false_eq_true, if_false]
    exact Nat.lt_of_le_of_lt (Nat.min_le_right _ _) (by decide)
  refine ⟨?_, hlt⟩
  unfold Hi
  rw [rn_mg]
  rw [Nat.min_eq_left (by omega)]
  rcases ka.1 with a0 | a1
  · rcases kb.1 with b0 | b1
    · left
      rw [ka.mg] at a0
      rw [kb.mg] at b0
      rw [ea, eb, a0, b0, mv_zero]
      exact rung_none 0
    · right
      refine ⟨rung_ge (by omega) ?_, s2⟩
      rw [kb.mg] at b1
      rw [Nat.pow_zero, Nat.mul_one]
      have : mv 238690780250636288 ≤ mv b := mv_le.2 b1.1
      show mv 238690780250636288 ≤ _
      omega
  · right
    refine ⟨rung_ge (by omega) ?_, s2⟩
    rw [ka.mg] at a1
    rw [Nat.pow_zero, Nat.mul_one]
    have : mv 238690780250636288 ≤ mv a := mv_le.2 a1.1
    show mv 238690780250636288 ≤ _
    omega
theorem key_db {h a b : Nat} (ka : Ps h a) (kb : Ps h b) (hh : h + 4503599627370496 < 9218868437227405312) : (key (db b) < key (db a)) = (key b < key a) := by
  have da := ka.db hh
  have db' := kb.db hh
  have ea := db_mg (ka.1.md hh).w
  have eb := db_mg (kb.1.md hh).w
  unfold key
  rw [da.ng, db'.ng, ka.ng, kb.ng, ea, eb]
  apply propext
  by_cases ca : mg a = 0
  · by_cases cb : mg b = 0
    · rw [if_pos ca, if_pos cb, ca, cb]
    · rw [if_pos ca, if_neg cb]; omega
  · by_cases cb : mg b = 0
    · rw [if_neg ca, if_pos cb]; simp; omega
    · rw [if_neg ca, if_neg cb]; simp
theorem lo_db {h a b : Nat} (ka : Ps h a) (kb : Ps h b) (hh : h + 4503599627370496 < 9218868437227405312) : loB (db a) (db b) = db (loB a b) ∧ hiB (db a) (db b) = db (hiB a b) ∧ Ps h (loB a b) ∧ Ps h (hiB a b) := by
  have e := key_db ka kb hh
  unfold loB hiB
  by_cases c : key b < key a
  · rw [if_pos (by rw [e]; exact c), if_pos c, if_pos (by rw [e]; exact c), if_pos c]
    exact ⟨rfl, rfl, kb, ka⟩
  · rw [if_neg (by rw [e]; exact c), if_neg c, if_neg (by rw [e]; exact c), if_neg c]
    exact ⟨rfl, rfl, ka, kb⟩
theorem thB_db {h a b c : Nat} (ka : Ps h a) (kb : Ps h b) (kc : Ps h c) (h1 : 4503599627370496 ≤ h) (h2 : h + 13510798882111488 < 9218868437227405312) :
    thB (db a) (db b) (db c) = db (thB a b c) ∧ Ps (h + 9007199254740992) (thB a b c) := by
  obtain ⟨e1, e2, k1, k2⟩ := lo_db ka kb (by omega)
  obtain ⟨e3, e4, k3, k4⟩ := lo_db k2 kc (by omega)
  obtain ⟨e5, e6, k5, k6⟩ := lo_db k1 k3 (by omega)
  obtain ⟨p1, p2⟩ := plB_db k5 k6 h1 (by omega)
  obtain ⟨g, hg⟩ : ∃ g, h + 4503599627370496 = g := ⟨_, rfl⟩
  rw [hg] at p2
  have k7 : Ps g (hiB (hiB a b) c) := k4.up (by omega)
  obtain ⟨p3, p4⟩ := plB_db p2 k7 (by omega) (by omega)
  have p5 : Ps (h + 9007199254740992) (plB (plB (loB (loB a b) (loB (hiB a b) c)) (hiB (loB a b) (loB (hiB a b) c))) (hiB (hiB a b) c)) := p4.up (by omega)
  unfold thB
  rw [e1, e2, e3, e4, e5, e6, p1, p3]
  exact ⟨rfl, p5⟩
/-- from 1e-100 to 1e100, or nought -/
def In1 (x : Nat) : Prop := mg x = 0 ∨ (3110860544497550640 ≤ mg x ∧ mg x ≤ 6103021453049119613)
theorem In1.hi {x : Nat} (k : In1 x) : Hi 6103021453049119613 x := by
  rcases k with k | k
  · exact .inl k
  · exact .inr ⟨by omega, k.2⟩
theorem In1.md {x : Nat} (k : In1 x) : Md x := k.hi.md (by omega)
theorem pr_lo : mv 1599789920352257571 * 2 ^ K ≤ mv 3110860544497550640 * mv 3110860544497550640 := by decide +kernel
theorem pr_hi : mv 6103021453049119613 * mv 6103021453049119613 ≤ mv 7613934262404594417 * 2 ^ K := by decide +kernel
theorem pr_lg : 2 ^ (52 + K) ≤ mv 3110860544497550640 * mv 3110860544497550640 := by decide +kernel
theorem rung_ge' {d r V : Nat} (h : mv r * 2 ^ d ≤ V) : r ≤ rung 52 d V := rung_ge (by omega) h
theorem rung_le' {d r V : Nat} (h : V ≤ mv r * 2 ^ d) : rung 52 d V ≤ r := rung_le (by omega) h
theorem pr_rung {V : Nat} (h1 : mv 3110860544497550640 * mv 3110860544497550640 ≤ V) (h2 : V ≤ mv 6103021453049119613 * mv 6103021453049119613) :
    52 + 1074 ≤ V.log2 ∧ 1599789920352257571 ≤ rung 52 1074 V ∧ rung 52 1074 V ≤ 7613934262404594417 := by
  have hV : 2 ^ (52 + K) ≤ V := Nat.le_trans pr_lg h1
  have h0 : V ≠ 0 := by have := Nat.two_pow_pos (52 + K); omega
  refine ⟨?_, ?_, ?_⟩
  · have := (Nat.le_log2 h0).2 hV
    exact this
  · exact rung_ge' (d := K) (Nat.le_trans pr_lo h1)
  · exact rung_le' (d := K) (Nat.le_trans h2 pr_hi)
theorem In1.far {x y : Nat} (kx : In1 x) (ky : In1 y) : Far x y := by
  rcases kx with kx | kx
  · exact .inl (.inl kx)
  · rcases ky with ky | ky
    · exact .inl (.inr ky)
    · obtain ⟨a, b, c⟩ := pr_rung (Nat.mul_le_mul (mv_le.2 kx.1) (mv_le.2 ky.1)) (Nat.mul_le_mul (mv_le.2 kx.2) (mv_le.2 ky.2))
      exact .inr ⟨a, by omega⟩
theorem In1.prod {x y : Nat} (hx : x < 18446744073709551616) (hy : y < 18446744073709551616) (kx : In1 x) (ky : In1 y) : Hi 7613934262404594417 (mlB x y) := by
  rw [mul_w hx hy kx.md.fin ky.md.fin]
  show Hi _ (wd (ng x ^^ ng y) _)
  unfold Hi
  have z : (mg x = 0 ∨ mg y = 0) → mv (mg x) * mv (mg y) = 0 := by
    intro h
    rcases h with h | h
    · rw [h, mv_zero, Nat.zero_mul]
    · rw [h, mv_zero, Nat.mul_zero]
  rcases kx with kx | kx
  · rw [z (.inl kx), rung_none, Nat.zero_min, wd_mg (by omega)]; exact .inl rfl
  · rcases ky with ky | ky
    · rw [z (.inr ky), rung_none, Nat.zero_min, wd_mg (by omega)]; exact .inl rfl
    · obtain ⟨a, b, c⟩ := pr_rung (Nat.mul_le_mul (mv_le.2 kx.1) (mv_le.2 ky.1)) (Nat.mul_le_mul (mv_le.2 kx.2) (mv_le.2 ky.2))
      generalize rung 52 1074 (mv (mg x) * mv (mg y)) = r at *
      rw [Nat.min_eq_left (by omega), wd_mg (by omega)]
      exact .inr ⟨by omega, c⟩
theorem In1.sq {x : Nat} (hx : x < 18446744073709551616) (k : In1 x) : Ps 7613934262404594417 (sqB x) := by
  refine ⟨k.prod hx hx k, ?_⟩
  unfold sqB
  rw [mul_w hx hx k.md.fin k.md.fin, Bool.xor_self]
  simp only [Bool.false_eq_true, if_false]
  exact Nat.lt_of_le_of_lt (Nat.min_le_right _ _) (by decide)
theorem In1.sq_db {x : Nat} (hx : x < 18446744073709551616) (k : In1 x) : sqB (db x) = db (db (sqB x)) := by
  have m := k.md
  have md : Md (db x) := by
    unfold Md
    rw [db_mg m.w]
    rcases k with k | k
    · rw [if_pos k]; exact .inl rfl
    · rw [if_neg (by omega)]; exact .inr ⟨by omega, by omega⟩
  have f : Far x (db x) := by
    unfold Far
    rw [db_mg m.w]
    rcases k with k | k
    · exact .inl (.inl k)
    · rw [if_neg (by omega)]
      obtain ⟨a, b, c⟩ := pr_rung (Nat.mul_le_mul (mv_le.2 k.1) (mv_le.2 k.1)) (Nat.mul_le_mul (mv_le.2 k.2) (mv_le.2 k.2))
      have h0 : mv (mg x) * mv (mg x) ≠ 0 := by intro e; rw [e] at a; simp at a
      rw [mv_dbl (by omega), show mv (mg x) * (2 * mv (mg x)) = mv (mg x) * mv (mg x) * 2 by rw [Nat.mul_left_comm, Nat.mul_comm]]
      have hl : (mv (mg x) * mv (mg x) * 2).log2 = (mv (mg x) * mv (mg x)).log2 + 1 := by
        have := log2_mul_pow (mv (mg x) * mv (mg x)) 1 h0
        rwa [Nat.pow_one] at this
      rw [rung_dbl h0 a, hl]
      exact .inr ⟨by omega, by omega⟩
  unfold sqB
  rw [mlB_db hx (db_lt m.w hx) m md f, mlB_dbr hx hx m m (k.far k)]
/-- how long a doubled vector is -/
theorem In1.ln {x y z : Nat} (hx : x < 18446744073709551616) (hy : y < 18446744073709551616) (hz : z < 18446744073709551616) (kx : In1 x) (ky : In1 y) (kz : In1 z) :
    lnB (db x) (db y) (db z) = db (lnB x y z) ∧ Md (lnB x y z) := by
  have s1 := kx.sq hx
  have s2 := ky.sq hy
  have s3 := kz.sq hz
  obtain ⟨t1, t2⟩ := thB_db s1 s2 s3 (by omega) (by omega)
  obtain ⟨t3, _⟩ := thB_db (s1.db (by omega)) (s2.db (by omega)) (s3.db (by omega)) (by omega) (by omega)
  unfold lnB
  rw [kx.sq_db hx, ky.sq_db hy, kz.sq_db hz, t3, t1]
  refine rtB_db t2.lt t2.ng ?_
  rcases t2.1 with h | h
  · exact .inl h
  · exact .inr ⟨by omega, by omega⟩
end Go.Proofs.YtbdjbhdbegiipaaGreatDoor

namespace Go.Proofs.YtbdjbhdbegiipaaGreatDoor
open Tf Ieee
theorem mv_2 : mv 4611686018427387904 = 2 * 2 ^ K := by rw [← mv_ONE]; exact mv_dbl (r := 4607182418800017408) (by omega)
/-- a product of two floats that aren't below nothing -/
theorem ml_word {a b : Nat} (ha : a < 9218868437227405312) (hb : b < 9218868437227405312) : mlB a b = min (rung 52 1074 (mv a * mv b)) 9218868437227405312 := by
  have ma : mg a = a := mg_of_lt (by omega)
  have mb : mg b = b := mg_of_lt (by omega)
  rw [mul_w (by omega) (by omega) (by omega) (by omega), ng_of_lt (by omega), ng_of_lt (by omega), ma, mb]
  simp only [Bool.xor_self, Bool.false_eq_true, if_false]
theorem mv_sm {r : Nat} (h : r < 9007199254740992) : mv r = r := by
  by_cases c : r < 4503599627370496
  · have := mv_zero
    unfold mv mag
    rw [if_pos c]
  · rw [mv_parts (by omega), show r % 4503599627370496 = r - 4503599627370496 by omega, show r / 4503599627370496 - 1 = 0 by omega, Nat.pow_zero, Nat.mul_one]
    omega
/-- doubling: a whole number of units that is a float's, or too great -/
theorem dbl_ex (a : Nat) : ∃ r, mv r = 2 * mv a ∧ a ≤ r ∧ (a ≠ 0 → a < r) := by
  by_cases h : 4503599627370496 ≤ a
  · exact ⟨a + 4503599627370496, mv_dbl h, by omega, fun _ => by omega⟩
  · refine ⟨2 * a, ?_, by omega, fun _ => by omega⟩
    rw [mv_sm (r := 2 * a) (by omega), mv_sm (r := a) (by omega)]
theorem d2_word {a : Nat} (ha : a < 9218868437227405312) : mlB 4611686018427387904 a = min (rung 52 0 (2 * mv a)) 9218868437227405312 := by
  rw [ml_word (by omega) ha, mv_2, show 2 * 2 ^ K * mv a = (2 * mv a) * 2 ^ K by rw [Nat.mul_right_comm]]
  have h := rung_scale 52 0 K (2 * mv a)
  rw [Nat.zero_add] at h
  exact congrArg (min · 9218868437227405312) h
/-- 2 * a of a that isn't below nothing: exact, or the infinity -/
theorem d2_facts {a : Nat} (ha : a ≤ 9218868437227405312) : mlB 4611686018427387904 a ≤ 9218868437227405312 ∧ a ≤ mlB 4611686018427387904 a ∧ (mlB 4611686018427387904 a < 9218868437227405312 → mv (mlB 4611686018427387904 a) = 2 * mv a) := by
  by_cases h : a < 9218868437227405312
  · obtain ⟨r, h1, h2, -⟩ := dbl_ex a
    rw [d2_word h, ← h1, rung_mv]
    refine ⟨Nat.min_le_right _ _, by omega, fun k => ?_⟩
    rw [Nat.min_eq_left (by omega), h1]
  · obtain rfl : a = 9218868437227405312 := by omega
    have e : mlB 4611686018427387904 9218868437227405312 = 9218868437227405312 := by decide +kernel
    rw [e]
    exact ⟨Nat.le_refl _, Nat.le_refl _, fun k => by omega⟩
theorem d2_mono {a b : Nat} (h : a ≤ b) (hb : b ≤ 9218868437227405312) : mlB 4611686018427387904 a ≤ mlB 4611686018427387904 b := by
  by_cases k : b < 9218868437227405312
  · rw [d2_word (by omega), d2_word k]
    have := rung_mono (p := 52) (d := 0) (V := 2 * mv a) (V' := 2 * mv b) (by omega) (Nat.mul_le_mul_left 2 (mv_le.2 h))
    omega
  · obtain rfl : b = 9218868437227405312 := by omega
    have e : mlB 4611686018427387904 9218868437227405312 = 9218868437227405312 := by decide +kernel
    rw [e]
    exact (d2_facts (by omega)).1
/-- Superbee above nothing -/
def sbee (a b : Nat) : Nat := max (min (mlB 4611686018427387904 a) b) (min a (mlB 4611686018427387904 b))
theorem sbee_facts {a b : Nat} (ha : a ≤ 9218868437227405312) (hb : b ≤ 9218868437227405312) : min a b ≤ sbee a b ∧ sbee a b ≤ max a b ∧ sbee a b ≤ mlB 4611686018427387904 (min a b) := by
  have fa := d2_facts ha
  have fb := d2_facts hb
  have mono : ∀ x y, x ≤ y → y ≤ 9218868437227405312 → mlB 4611686018427387904 x ≤ mlB 4611686018427387904 y := fun x y h k => d2_mono h k
  unfold sbee
  rcases Nat.le_total a b with h | h
  · rw [Nat.min_eq_left h]
    omega
  · rw [Nat.min_eq_right h]
    omega
end Go.Proofs.YtbdjbhdbegiipaaGreatDoor

namespace Go.Proofs.YtbdjbhdbegiipaaGreatDoor
open Tf Ieee
def Er17 : Nat := 2030
theorem mv_E17 : mv 9146810843189477376 = 2 ^ (52 + Er17) := mv_two_pow Er17 _ (by decide)
theorem le_E17 {W d : Nat} (hW : W ≤ 2 ^ 57) (hd : d ≤ 2025) : W * 2 ^ d ≤ mv 9146810843189477376 := by
  rw [mv_E17]
  have h1 : 2 ^ d ≤ 2 ^ (Er17 - 5) := Nat.pow_le_pow_right (by omega) (by unfold Er17; omega)
  have h2 := Nat.mul_le_mul hW h1
  have e : 2 ^ 57 * 2 ^ (Er17 - 5) = 2 ^ (52 + Er17) := by rw [← Nat.pow_add]; congr 1
  rw [e] at h2
  exact h2
theorem quo_lo {m n : Nat} (m1 : 4503599627370496 ≤ m) (m2 : m < 9007199254740992) (n1 : 4503599627370496 ≤ n) (n2 : n < 9007199254740992) : 9007199254740992 ≤ m <<< 54 / n ∧ m <<< 54 / n ≤ 36028797018963968 := by
  rw [Nat.shiftLeft_eq]
  constructor
  · rw [Nat.le_div_iff_mul_le (by omega)]
    have := Nat.mul_le_mul_right (2 ^ 54) m1
    omega
  · refine Nat.div_le_of_le_mul ?_
    omega
set_option maxRecDepth 100000 in
theorem div_pos {x l : Nat} (x1 : 4503599627370496 ≤ x) (x2 : x < 9218868437227405312) (l1 : 4503599627370496 ≤ l) (l2 : l < 9218868437227405312) :
    ∃ W, 18014398509481984 ≤ W ∧ W ≤ 2 ^ 57 ∧ W = 2 * ((4503599627370496 + x % 4503599627370496) <<< 54 / (4503599627370496 + l % 4503599627370496)) + ((4503599627370496 + x % 4503599627370496) <<< 54 % (4503599627370496 + l % 4503599627370496) != 0).toNat ∧ double.div x l = some (double.nearest false W (((x / 4503599627370496 - 1 : Nat) : Int) - ((l / 4503599627370496 - 1 : Nat) : Int) - 55)) := by
  have ml : mg l = l := mg_of_lt (by omega)
  have mx : mg x = x := mg_of_lt (by omega)
  have el := read_norm (x := l) (by omega) (by omega)
  rw [ml, sgn_ng (by omega), ng_of_lt (by omega)] at el
  have ex := read_norm (x := x) (by omega) (by omega)
  rw [mx, sgn_ng (by omega), ng_of_lt (by omega)] at ex
  have hn : 4503599627370496 + l % 4503599627370496 ≠ 0 := by omega
  have lx : (4503599627370496 + x % 4503599627370496).log2 = 52 := log_m _ (Nat.mod_lt _ (by omega))
  have ll : (4503599627370496 + l % 4503599627370496).log2 = 52 := log_m _ (Nat.mod_lt _ (by omega))
  have hq := quo_lo (m := 4503599627370496 + x % 4503599627370496) (n := 4503599627370496 + l % 4503599627370496) (by omega) (by omega) (by omega) (by omega)
  refine ⟨_, ?_, ?_, rfl, ?_⟩
  · omega
  · have : ((4503599627370496 + x % 4503599627370496) <<< 54 % (4503599627370496 + l % 4503599627370496) != 0).toNat ≤ 1 := by cases ((4503599627370496 + x % 4503599627370496) <<< 54 % (4503599627370496 + l % 4503599627370496) != 0) <;> simp
    omega
  · show ((double.read x).quotient 54 (double.read l)).map double.write = _
    rw [ex, el]
    unfold Datum.quotient
    dsimp only
    rw [if_neg hn, lx, ll]
    simp only [Bool.xor_false]
    show some (double.nearest false _ _) = some (double.nearest false _ _)
    congr 2
    omega
theorem rung_E17 {V : Nat} (h : V ≤ mv 9146810843189477376) : rung 52 0 V ≤ 9146810843189477376 := by
  refine rung_le (by omega) ?_
  rw [Nat.pow_zero, Nat.mul_one]
  exact h
end Go.Proofs.YtbdjbhdbegiipaaGreatDoor

namespace Go.Proofs.YtbdjbhdbegiipaaGreatDoor
open Tf Ieee
/-- the whole quotient twice, and one more where that isn't all -/
def stQ (N n : Nat) : Nat := 2 * (N / n) + (N % n != 0).toNat
theorem canon_nn' {q : Nat} (q1 : 4503599627370496 ≤ q) (q2 : q < 9218868437227405312) : canonB q = q := by
  have mq : mg q = q := mg_of_lt (by omega)
  unfold canonB
  rw [mq, if_neg (by unfold isN; rw [mq]; simp; omega), if_neg (by omega)]
set_option maxRecDepth 100000 in
/-- what a quotient of two numbers above nothing is -/
theorem dv_core {x l : Nat} (x1 : 4503599627370496 ≤ x) (x2 : x < 9218868437227405312) (l1 : 4503599627370496 ≤ l) (l2 : l < 9218868437227405312)
    (h1 : l / 4503599627370496 ≤ x / 4503599627370496 + 1010) (h2 : x / 4503599627370496 ≤ l / 4503599627370496 + 1006) :
    ∃ N n d g, 0 < g ∧ 0 < n ∧ 18014398509481984 ≤ stQ N n ∧ dvB x l = rung 52 0 (stQ N n * 2 ^ d) ∧ n * g = mv l ∧ N * 2 ^ (d + 2) * g = 2 * (mv x * 2 ^ K) ∧ 4503599627370496 ≤ dvB x l ∧ dvB x l ≤ 9146810843189477376 := by
  obtain ⟨W, w1, w2, w3, e1⟩ := div_pos x1 x2 l1 l2
  have hq : W = stQ ((4503599627370496 + x % 4503599627370496) * 2 ^ 54) (4503599627370496 + l % 4503599627370496) := by rw [w3]; unfold stQ; rw [Nat.shiftLeft_eq]
  have px := mv_parts x1
  have pl := mv_parts l1
  have hlp := d_lp
  have ha : 1 ≤ x / 4503599627370496 ∧ 1 ≤ l / 4503599627370496 := by omega
  clear w3
  generalize x / 4503599627370496 = a at *
  generalize l / 4503599627370496 = c at *
  obtain ⟨d, hd⟩ : ∃ d : Nat, (((a - 1 : Nat) : Int) - ((c - 1 : Nat) : Int) - 55) = double.leastPlace + (d : Int) := ⟨((((a - 1 : Nat) : Int) - ((c - 1 : Nat) : Int) - 55) - double.leastPlace).toNat, by omega⟩
  have hdle : d ≤ 2025 := by omega
  have hdk : d + 2 + 54 + (c - 1) = (a - 1) + 1 + K := by unfold K; omega
  rw [nearest_up double false W d _ hd, d_word, d_inf] at e1
  have h0 : W * 2 ^ d ≠ 0 := Nat.mul_ne_zero (by omega) (by have := Nat.two_pow_pos d; omega)
  have hlog : 52 + 0 ≤ (W * 2 ^ d).log2 := by
    refine (Nat.le_log2 h0).2 ?_
    have e : (2 : Nat) ^ (52 + 0) = 4503599627370496 := by decide
    rw [e]
    have := Nat.two_pow_pos d
    exact Nat.le_trans (by omega) (Nat.le_mul_of_pos_right W this)
  have hb := rung_big hlog h0
  have hle := rung_E17 (le_E17 w2 hdle)
  have hfb : double.fractionBits = 52 := rfl
  rw [hfb] at e1
  refine ⟨(4503599627370496 + x % 4503599627370496) * 2 ^ 54, 4503599627370496 + l % 4503599627370496, d, 2 ^ (c - 1), Nat.two_pow_pos _, by omega, by omega, ?_, pl.symm, ?_, ?_⟩
  · rw [← hq]
    generalize rung 52 0 (W * 2 ^ d) = r at *
    simp only [Bool.false_eq_true, if_false] at e1
    rw [Nat.min_eq_left (by omega)] at e1
    rw [dvB_some e1]
    exact canon_nn' hb (by omega)
  · rw [px]
    generalize 4503599627370496 + x % 4503599627370496 = m
    rw [show m * 2 ^ 54 * 2 ^ (d + 2) * 2 ^ (c - 1) = m * 2 ^ (d + 2 + 54 + (c - 1)) by rw [Nat.mul_assoc, Nat.mul_assoc, ← Nat.pow_add, ← Nat.pow_add]; congr 2; omega, hdk, Nat.pow_add, Nat.pow_add, Nat.pow_one]
    generalize 2 ^ (a - 1) = u
    generalize 2 ^ K = v
    rw [show u * 2 * v = 2 * (u * v) by rw [Nat.mul_comm u 2, Nat.mul_assoc], ← Nat.mul_assoc m 2, Nat.mul_comm m 2, Nat.mul_assoc, Nat.mul_assoc]
  · generalize rung 52 0 (W * 2 ^ d) = r at *
    simp only [Bool.false_eq_true, if_false] at e1
    rw [Nat.min_eq_left (by omega)] at e1
    rw [dvB_some e1, canon_nn' hb (by omega)]
    exact ⟨hb, hle⟩
end Go.Proofs.YtbdjbhdbegiipaaGreatDoor

namespace Go.Proofs.YtbdjbhdbegiipaaGreatDoor
open Tf Ieee
/-- numbers whose quotient is far from both ends -/
def Qn (x l : Nat) : Prop := (4503599627370496 ≤ x ∧ x < 9218868437227405312) ∧ (4503599627370496 ≤ l ∧ l < 9218868437227405312) ∧ l / 4503599627370496 ≤ x / 4503599627370496 + 1010 ∧ x / 4503599627370496 ≤ l / 4503599627370496 + 1006
theorem dq_in {x l : Nat} (q : Qn x l) : 4503599627370496 ≤ dvB x l ∧ dvB x l ≤ 9146810843189477376 := by
  obtain ⟨⟨x1, x2⟩, ⟨l1, l2⟩, h1, h2⟩ := q
  obtain ⟨N, n, d, g, hg, hn, hW, e, e1, e2, e3⟩ := dv_core x1 x2 l1 l2 h1 h2
  exact e3
end Go.Proofs.YtbdjbhdbegiipaaGreatDoor

namespace Go.Proofs.YtbdjbhdbegiipaaGreatDoor
open Tf

theorem R_exact (v : Int) (r : Nat) (h : mv r = v.natAbs) (hr : r ≤ 9218868437227405312) : R v = if v < 0 then -(r : Int) else (r : Int) := by
  unfold R
  rw [← h, rung_mv, Nat.min_eq_left hr]
theorem R_mv (r : Nat) (hr : r ≤ 9218868437227405312) : R (mv r : Int) = r ∧ R (-(mv r : Int)) = -(r : Int) := by
  refine ⟨?_, ?_⟩
  · rw [R_exact _ r (by rw [Int.natAbs_natCast]) hr, if_neg (by omega)]
  · rw [R_exact _ r (by rw [Int.natAbs_neg, Int.natAbs_natCast]) hr]
    by_cases c : r = 0
    · subst c; rw [mv_zero]; simp
    · have := (@mv_lt 0 r).2 (by omega)
      rw [mv_zero] at this
      rw [if_pos (by omega)]

/-- both are of 64 bits just where x is -/
theorem cOk_wOk (way : Ieee.Toward) (x : Nat) (hx : x < 18446744073709551616) : cOk way x = wOk x := by
  cases n : isN x
  · by_cases c : 4841369599423283200 ≤ mg x
    · by_cases fx : mg x < 9218868437227405312
      · obtain ⟨q, hq⟩ := whole_great (mg x) c
        rw [← wOk_itV way x hx n]
        have h := itV_fin way x hx fx
        have e : itV way x = x := by
          have h3 := h.2.2
          rw [hq, cutq_mul _ _ _ _ one_pos, ← hq] at h3
          have h4 := mv_inj.1 h3
          have w1 := word_eq x hx
          have w2 := word_eq (itV way x) (itV_lt way x)
          rw [h4, h.1] at w2
          rw [w2]; exact w1.symm
        rw [e]
      · rw [← wOk_itV way x hx n, itV_inf way x hx (by have := isN_false.1 n; omega)]
    · have h1 : wOk x = true := by
        rw [wOk_rk x hx, n]
        have hr : rk x = mg x ∨ rk x = -(mg x : Int) := by unfold rk; split <;> simp
        rw [decide_eq_true (by omega), decide_eq_true (by omega)]; rfl
      have e : mv 4841369599423283200 = 2 ^ 52 * one := mv_from_one 52 _ (by decide)
      have hl : mv (mg x) < 2 ^ 52 * one := by rw [← e]; exact mv_lt.2 (by omega)
      have hq : mv (mg x) / one < 2 ^ 52 := (Nat.div_lt_iff_lt_mul one_pos).2 hl
      have hc := cutq_le way (ng x) (mv (mg x)) one
      have h2 : cOk way x = true := by
        unfold cOk fin
        have h3 : -9223372036854775808 ≤ cq way x ∧ cq way x < 9223372036854775808 := by
          unfold cq
          generalize cutq way (ng x) (mv (mg x)) one = Q at *
          split <;> omega
        rw [decide_eq_true (by omega), decide_eq_true h3.1, decide_eq_true h3.2]; rfl
      rw [h1, h2]
  · rw [(cOk_nan way n).1, (wOk_nan hx n).1]
end Go.Proofs.YtbdjbhdbegiipaaGreatDoor

namespace Go.Proofs.YtbdjbhdbegiipaaGreatDoor
open Go.RowKit Tf
attribute [local go_sem] run_bits run_from raw_feq raw_fne raw_flt raw_fgt run_neg

/-- the ends; the answer -/
def clampM (most : Int) : Int := if most < 0 then 0 else most
def clampB (x : Nat) (most : Int) : Int :=
  if isN x then 0 else if cOk .even x then min (max (cI .even x) (-clampM most)) (clampM most) else if fgt x 0 then clampM most else -clampM most

set_option maxHeartbeats 1000000 in
theorem clamp_nan (x : Nat) (most : Int) (n : isN x = true) (w : World) (hx : x < 18446744073709551616) :
    Calls Tryz.prog 29 #[.float .f64 x, .int .i64 most] w fun e w' => e = .returned (.int .i64 (0)) ∧ ∃ n, w' = w.drewN n := by
  go_enter Tryz.func29, Tryz.ntmps29
  go_wp2_with fail
  refine (cIsNaN_any x _ hx).mono ?_
  rintro e w' ⟨rfl, rfl⟩
  go_wp2
  go_ret
  exact ⟨rfl, 0, rfl⟩
set_option maxHeartbeats 1000000 in
theorem clamp_pos (x : Nat) (most : Int) (m : Int) (n : isN x = false) (hm : (if most < 0 then 0 else most) = m) (_m0 : 0 ≤ m) (_m1 : m ≤ 9223372036854775807) (hi : cI .even x = 0) (ho : cOk .even x = false) (g : fgt x 0 = true) (w : World) (hx : x < 18446744073709551616) :
    Calls Tryz.prog 29 #[.float .f64 x, .int .i64 most] w fun e w' => e = .returned (.int .i64 (m)) ∧ ∃ n, w' = w.drewN n := by
  go_enter Tryz.func29, Tryz.ntmps29
  go_wp2_with fail
  refine (cIsNaN_any x _ hx).mono ?_
  rintro e w' ⟨rfl, rfl⟩
  go_wp2_with fail
  refine (round_at x 0 false _ hx hi ho).mono ?_
  rintro e w' ⟨rfl, k, rfl⟩
  go_wp2
  go_ret
  exact ⟨rfl, k, rfl⟩
set_option maxHeartbeats 1000000 in
theorem clamp_neg (x : Nat) (most : Int) (m : Int) (n : isN x = false) (hm : (if most < 0 then 0 else most) = m) (m0 : 0 ≤ m) (m1 : m ≤ 9223372036854775807) (hi : cI .even x = 0) (ho : cOk .even x = false) (g : fgt x 0 = false) (w : World) (hx : x < 18446744073709551616) :
    Calls Tryz.prog 29 #[.float .f64 x, .int .i64 most] w fun e w' => e = .returned (.int .i64 (-m)) ∧ ∃ n, w' = w.drewN n := by
  go_enter Tryz.func29, Tryz.ntmps29
  go_wp2_with fail
  refine (cIsNaN_any x _ hx).mono ?_
  rintro e w' ⟨rfl, rfl⟩
  go_wp2_with fail
  refine (round_at x 0 false _ hx hi ho).mono ?_
  rintro e w' ⟨rfl, k, rfl⟩
  go_wp2
  go_ret
  exact ⟨rfl, k, rfl⟩
set_option maxHeartbeats 1000000 in
theorem clamp_lo (x : Nat) (most : Int) (m : Int) (n : isN x = false) (hm : (if most < 0 then 0 else most) = m) (m0 : 0 ≤ m) (m1 : m ≤ 9223372036854775807) (i : Int) (hi : cI .even x = i) (ho : cOk .even x = true) (c : i < -m) (w : World) (hx : x < 18446744073709551616) :
    Calls Tryz.prog 29 #[.float .f64 x, .int .i64 most] w fun e w' => e = .returned (.int .i64 (-m)) ∧ ∃ n, w' = w.drewN n := by
  go_enter Tryz.func29, Tryz.ntmps29
  go_wp2_with fail
  refine (cIsNaN_any x _ hx).mono ?_
  rintro e w' ⟨rfl, rfl⟩
  go_wp2_with fail
  refine (round_at x i true _ hx hi ho).mono ?_
  rintro e w' ⟨rfl, k, rfl⟩
  go_wp2
  go_ret
  exact ⟨rfl, k, rfl⟩
set_option maxHeartbeats 1000000 in
theorem clamp_hi (x : Nat) (most : Int) (m : Int) (n : isN x = false) (hm : (if most < 0 then 0 else most) = m) (m0 : 0 ≤ m) (m1 : m ≤ 9223372036854775807) (i : Int) (hi : cI .even x = i) (ho : cOk .even x = true) (c : m < i) (w : World) (hx : x < 18446744073709551616) :
    Calls Tryz.prog 29 #[.float .f64 x, .int .i64 most] w fun e w' => e = .returned (.int .i64 (m)) ∧ ∃ n, w' = w.drewN n := by
  go_enter Tryz.func29, Tryz.ntmps29
  go_wp2_with fail
  refine (cIsNaN_any x _ hx).mono ?_
  rintro e w' ⟨rfl, rfl⟩
  go_wp2_with fail
  refine (round_at x i true _ hx hi ho).mono ?_
  rintro e w' ⟨rfl, k, rfl⟩
  go_wp2
  go_ret
  exact ⟨rfl, k, rfl⟩
set_option maxHeartbeats 1000000 in
theorem clamp_in (x : Nat) (most : Int) (m : Int) (n : isN x = false) (hm : (if most < 0 then 0 else most) = m) (m0 : 0 ≤ m) (m1 : m ≤ 9223372036854775807) (i : Int) (hi : cI .even x = i) (ho : cOk .even x = true) (c : -m ≤ i) (c' : i ≤ m) (w : World) (hx : x < 18446744073709551616) :
    Calls Tryz.prog 29 #[.float .f64 x, .int .i64 most] w fun e w' => e = .returned (.int .i64 (i)) ∧ ∃ n, w' = w.drewN n := by
  go_enter Tryz.func29, Tryz.ntmps29
  go_wp2_with fail
  refine (cIsNaN_any x _ hx).mono ?_
  rintro e w' ⟨rfl, rfl⟩
  go_wp2_with fail
  refine (round_at x i true _ hx hi ho).mono ?_
  rintro e w' ⟨rfl, k, rfl⟩
  go_wp2
  go_ret
  exact ⟨rfl, k, rfl⟩

theorem clamp_at (x : Nat) (most r : Int) (w : World) (hx : x < 18446744073709551616) (hm : most ≤ 9223372036854775807) (hr : clampB x most = r) :
    Calls Tryz.prog 29 #[.float .f64 x, .int .i64 most] w fun e w' => e = .returned (.int .i64 r) ∧ ∃ n, w' = w.drewN n := by
  subst hr
  unfold clampB
  have hm' : (if most < 0 then 0 else most) = clampM most := rfl
  have m0 : 0 ≤ clampM most := by unfold clampM; split <;> omega
  have m1 : clampM most ≤ 9223372036854775807 := by unfold clampM; split <;> omega
  generalize clampM most = m at *
  cases n : isN x
  · rw [if_neg (by decide)]
    cases ho : cOk .even x
    · have hi : cI .even x = 0 := by unfold cI; rw [ho]; rfl
      rw [if_neg (by decide)]
      cases g : fgt x 0
      · rw [if_neg (by decide)]; exact clamp_neg x most m n hm' m0 m1 hi ho g w hx
      · rw [if_pos rfl]; exact clamp_pos x most m n hm' m0 m1 hi ho g w hx
    · rw [if_pos rfl]
      by_cases c : cI .even x < -m
      · rw [show min (max (cI .even x) (-m)) m = -m by omega]
        exact clamp_lo x most m n hm' m0 m1 _ rfl ho c w hx
      · by_cases c2 : m < cI .even x
        · rw [show min (max (cI .even x) (-m)) m = m by omega]
          exact clamp_hi x most m n hm' m0 m1 _ rfl ho c2 w hx
        · rw [show min (max (cI .even x) (-m)) m = cI .even x by omega]
          exact clamp_in x most m n hm' m0 m1 _ rfl ho (by omega) (by omega) w hx
  · rw [if_pos rfl]; exact clamp_nan x most n w hx
end Go.Proofs.YtbdjbhdbegiipaaGreatDoor

namespace Go.Proofs.YtbdjbhdbegiipaaGreatDoor
open Tf

/-- what has no rank below the least whole number of 64 bits, and none above the greatest -/
theorem cOk_rk (way : Ieee.Toward) (x : Nat) (hx : x < 18446744073709551616) (n : isN x = false) : cOk way x = (decide (-4890909195324358656 ≤ rk x) && decide (rk x < 4890909195324358656)) := by
  rw [cOk_wOk way x hx, wOk_rk x hx, n]; simp
theorem fgt_zero (x : Nat) (hx : x < 18446744073709551616) (n : isN x = false) : fgt x 0 = decide (0 < rk x) := by
  have e : rk 0 = 0 := by decide
  have n0 : isN 0 = false := by decide
  rw [fgt_rk x 0 hx (by decide), n, n0, e]; simp
theorem cI_eq (way : Ieee.Toward) (x : Nat) (h : cOk way x = true) : cI way x = cq way x := by unfold cI; rw [h, if_pos rfl]

theorem clampM_nonneg (most : Int) : 0 ≤ clampM most := by unfold clampM; split <;> omega
theorem clampB_num (x : Nat) (most : Int) (hx : x < 18446744073709551616) (n : isN x = false) :
    clampB x most = if rk x < -4890909195324358656 then -clampM most else if rk x < 4890909195324358656 then min (max (cq .even x) (-clampM most)) (clampM most) else clampM most := by
  have hm := clampM_nonneg most
  have hk := cOk_rk .even x hx n
  have hg := fgt_zero x hx n
  unfold clampB
  rw [n, if_neg (by decide)]
  by_cases c1 : rk x < -4890909195324358656
  · have o : cOk .even x = false := by rw [hk, decide_eq_false (by omega)]; rfl
    rw [if_pos c1, o, hg, if_neg (by decide), decide_eq_false (by omega), if_neg (by decide)]
  · rw [if_neg c1]
    by_cases c2 : rk x < 4890909195324358656
    · have o : cOk .even x = true := by rw [hk, decide_eq_true (by omega), decide_eq_true c2]; rfl
      rw [if_pos c2, o, if_pos rfl, cI_eq .even x o]
    · have o : cOk .even x = false := by rw [hk, decide_eq_false c2, Bool.and_false]
      rw [if_neg c2, o, hg, if_neg (by decide), decide_eq_true (by omega), if_pos rfl]
end Go.Proofs.YtbdjbhdbegiipaaGreatDoor

namespace Go.Proofs.YtbdjbhdbegiipaaGreatDoor
open Tf Ieee
/-- a whole number as a float -/
def fw (n : Int) : Nat := rn false (n * one)
theorem R_one : R one = 4607182418800017408 := (R_mv 4607182418800017408 (by decide)).1
theorem mv_2_63 : mv 4890909195324358656 = 9223372036854775808 * one := by
  have h := mv_from_one 63 4890909195324358656 (by decide)
  have e : (2 : Nat) ^ 63 = 9223372036854775808 := by decide
  rw [e] at h
  exact h
theorem R_max : R (9223372036854775808 * one) = 4890909195324358656 := by
  have h := (R_mv 4890909195324358656 (by decide)).1
  rw [mv_2_63, Int.natCast_mul] at h
  exact h
theorem rn_nn {v : Int} (h : 0 ≤ v) : rn false v = (R v).toNat := by
  unfold rn R
  generalize min (rung 52 0 v.natAbs) 9218868437227405312 = m
  by_cases z : v = 0
  · rw [if_pos z, if_neg (by decide), if_neg (by omega), Int.toNat_natCast]
  · rw [if_neg z, decide_eq_false (by omega), if_neg (by decide), if_neg (by omega), Int.toNat_natCast]
theorem fw_R {n : Int} (h : 0 ≤ n) : fw n = (R (n * one)).toNat := rn_nn (Int.mul_nonneg h (Int.le_of_lt onep))
theorem fw_in {n : Int} (h1 : 1 ≤ n) (h2 : n ≤ 9223372036854775807) : 4607182418800017408 ≤ fw n ∧ fw n ≤ 4890909195324358656 := by
  have a := R_mono (Int.mul_le_mul_of_nonneg_right h1 (Int.le_of_lt onep))
  have b := R_mono (Int.mul_le_mul_of_nonneg_right (show n ≤ 9223372036854775808 by omega) (Int.le_of_lt onep))
  rw [Int.one_mul, R_one] at a
  rw [R_max] at b
  rw [fw_R (by omega)]
  omega
theorem fw_Qn {n m : Int} (n1 : 1 ≤ n) (n2 : n ≤ 9223372036854775807) (m1 : 1 ≤ m) (m2 : m ≤ 9223372036854775807) : Qn (fw n) (fw m) := by
  have a := fw_in n1 n2
  have b := fw_in m1 m2
  unfold Qn
  omega
/-- the depth -/
def dpB (w a : Int) : Nat := if w < 1 ∨ a < 1 then 0 else dvB (fw w) (fw a)
theorem dp_zero {w a : Int} (h : w < 1 ∨ a < 1) : dpB w a = 0 := by unfold dpB; rw [if_pos h]
theorem dp_of {w a : Int} (h1 : 1 ≤ w) (h2 : 1 ≤ a) : dpB w a = dvB (fw w) (fw a) := by unfold dpB; rw [if_neg (by omega)]
theorem dp_in {w a : Int} (h1 : 1 ≤ w) (h2 : 1 ≤ a) (w2 : w ≤ 9223372036854775807) (a2 : a ≤ 9223372036854775807) : 4503599627370496 ≤ dpB w a ∧ dpB w a ≤ 9146810843189477376 := by
  rw [dp_of h1 h2]
  exact dq_in (fw_Qn h1 w2 h2 a2)
theorem dp_le {w a : Int} (w2 : w ≤ 9223372036854775807) (a2 : a ≤ 9223372036854775807) : dpB w a ≤ 9146810843189477376 := by
  by_cases h : w < 1 ∨ a < 1
  · rw [dp_zero h]; omega
  · exact (dp_in (by omega) (by omega) w2 a2).2
end Go.Proofs.YtbdjbhdbegiipaaGreatDoor

namespace Go.Proofs.YtbdjbhdbegiipaaGreatDoor
open Tf Ieee
theorem sv_nn {d : Nat} (h : d < 9223372036854775808) : sv d = (mv d : Nat) := by
  unfold sv
  rw [ng_of_lt h, mg_of_lt h]; rfl
/-- the level -/
def lvl (b : Nat) (w a : Int) : Nat := addB b (dpB w a)
theorem lvl_lt {b : Nat} {w a : Int} (hb : b < 18446744073709551616) (w2 : w ≤ 9223372036854775807) (a2 : a ≤ 9223372036854775807) : lvl b w a < 18446744073709551616 := addB_lt b _ hb (by have := dp_le w2 a2; omega)
end Go.Proofs.YtbdjbhdbegiipaaGreatDoor

namespace Go.Proofs.YtbdjbhdbegiipaaGreatDoor
open Tf Ieee
/-- Leer above nothing, ahead of the look whether it is finite -/
def leer (a b : Nat) : Nat := dvB (mlB (mlB 4611686018427387904 a) b) (plB a b)
end Go.Proofs.YtbdjbhdbegiipaaGreatDoor
