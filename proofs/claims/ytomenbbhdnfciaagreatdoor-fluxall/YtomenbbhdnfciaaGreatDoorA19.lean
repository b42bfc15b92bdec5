/-
  Some of the texts of this proof, one behind the other.
-/
import Derived.Deep.QuietTactic
import Derived.Test.YtomenbbhdnfciaaGreatDoorA18
namespace Go.Proofs.YtomenbbhdnfciaaGreatDoor
open Go.RowKit Tf Cu Go.Deep
attribute [local go_sem] run_bits run_from raw_feq raw_fne raw_flt raw_fgt run_neg run_store_float
/-- the water of the flat sea -/
def lkW (i : Nat) : Int := if i = 1 then 2863311530 else 1431655765
theorem ar13 : ∀ c, c < 6 → arI (ArC 1 c) = 1431655765 := by decide +kernel
/-- behind c rounds, the waters being f -/
def LkR (w : World) (gd g4 b1 b2 b3 b4 : Nat) (f : Nat → Int) (v : World) : Prop :=
  Ab w v ∧ v.heap[g4]? = some (.cells #[.slice (some ⟨b1, 0, none⟩) 6 6, .slice (some ⟨b2, 0, none⟩) 6 6, .slice (some ⟨b3, 0, none⟩) 6 6, .slice (some ⟨b4, 0, none⟩) 12 12, .int .i64 0, .int .i64 0] 35) ∧ v.heap[gd]? = some (.cells #[.slice none 0 0, .slice none 0 0, .slice none 0 0, .slice none 0 0, .int .i64 0, .int .i64 0] 35) ∧ v.rowIs b1 24 6 (fun _ => .float .f64 0) ∧ v.rowIs b2 2 6 (fun i => .int .i64 (f i)) ∧ v.rowIs b3 2 6 (fun _ => .int .i64 0) ∧ v.rowIs b4 24 12 (fun _ => .float .f64 0)
def LkI (w : World) (gd g4 b1 b2 b3 b4 c : Nat) (v : World) : Prop := LkR w gd g4 b1 b2 b3 b4 (fun i => if i < c then lkW i else 0) v
theorem LkR.to2 {w : World} {gd g4 b1 b2 b3 b4 : Nat} {f : Nat → Int} {v v' : World} (h : LkR w gd g4 b1 b2 b3 b4 f v) (a : Ab v v') : LkR w gd g4 b1 b2 b3 b4 f v' := by
  obtain ⟨h1, h2, h3, h4, h5, h6, h7⟩ := h
  exact ⟨h1.trans a, a.heap h2, a.heap h3, rowIs.ab h4 a, rowIs.ab h5 a, rowIs.ab h6 a, rowIs.ab h7 a⟩
theorem LkI.to {w : World} {gd g4 b1 b2 b3 b4 c : Nat} {v v' : World} (h : LkI w gd g4 b1 b2 b3 b4 c v) (a : Ab v v') : LkR w gd g4 b1 b2 b3 b4 (fun i => if i < c then lkW i else 0) v' := LkR.to2 h a
theorem LkR.fin {w : World} {gd g4 b1 b2 b3 b4 c : Nat} {f : Nat → Int} {v : World} (h : LkR w gd g4 b1 b2 b3 b4 f v) (e : ∀ i, f i = if i < c then lkW i else 0) : LkI w gd g4 b1 b2 b3 b4 c v := by
  obtain ⟨h1, h2, h3, h4, h5, h6, h7⟩ := h
  exact ⟨h1, h2, h3, h4, h5.congr (fun i _ => by dsimp only; rw [e i]), h6, h7⟩
theorem LkR.set {w : World} {gd g4 b1 b2 b3 b4 : Nat} {f : Nat → Int} {v : World} (h : LkR w gd g4 b1 b2 b3 b4 f v) (nn : g4 ≠ b2 ∧ b1 ≠ b2 ∧ b3 ≠ b2 ∧ b4 ≠ b2 ∧ b1 ≠ b4 ∧ b3 ≠ b4) (hl : gd + 1 ≤ b1 ∧ gd + 1 ≤ b2 ∧ gd + 1 ≤ b3 ∧ gd + 1 ≤ b4 ∧ gd + 1 ≤ g4) (c : Nat) (x : Int) (hw : w.heap.size ≤ gd) : LkR w gd g4 b1 b2 b3 b4 (fun i => if i = c then x else f i) (v.setCell ⟨b2, c, none⟩ (.int .i64 x)) := by
  obtain ⟨h1, h2, h3, h4, h5, h6, h7⟩ := h
  refine ⟨h1.setk (by omega) _, by rw [heap_set_ne nn.1]; exact h2, by rw [heap_set_ne (by omega)]; exact h3, h4.setOther nn.2.1 _, (h5.set c _).congr (fun i _ => ?_), h6.setOther nn.2.2.1 _, h7.setOther nn.2.2.2.1 _⟩
  by_cases e : i = c
  · simp [e]
  · simp [e]
set_option maxRecDepth 100000 in
set_option maxHeartbeats 64000000 in
theorem lake13_at {gb : Nat} (w : World) (g : GridOf 1 gb w) :
    Calls Tryz.prog 13 #[.pointer (some ⟨gb, 0, none⟩)] w fun e w' => ∃ b1 b2 b3 b4, e = .returned (.agg #[.slice (some ⟨b1, 0, none⟩) 6 6, .slice (some ⟨b2, 0, none⟩) 6 6, .slice (some ⟨b3, 0, none⟩) 6 6, .slice (some ⟨b4, 0, none⟩) 12 12, .int .i64 0, .int .i64 0]) ∧ Below w.heap.size w w' ∧ w'.rowIs b1 24 6 (fun _ => .float .f64 0) ∧ w'.rowIs b2 2 6 (fun i => .int .i64 (lkW i)) ∧ w'.rowIs b3 2 6 (fun _ => .int .i64 0) ∧ w'.rowIs b4 24 12 (fun _ => .float .f64 0) ∧ (w.heap.size ≤ b4 ∧ b1 ≠ b4 ∧ b2 ≠ b4 ∧ b3 ≠ b4) := by
  have CC : Hid (∀ v, Ab w v → Calls Tryz.prog 35 #[.pointer (some ⟨gb, 0, none⟩)] v fun e w' => e = .returned (.int .i64 6) ∧ w' = v) := fun v hv => gCells_at (g.to hv)
  have CE : Hid (∀ v, Ab w v → Calls Tryz.prog 17 #[.pointer (some ⟨gb, 0, none⟩)] v fun e w' => e = .returned (.int .i64 12) ∧ w' = v) := fun v hv => gEdges_at (g.to hv)
  have M1 : ∀ v : World, (Instr.makeSlice 32 (.int .i64 6) (.int .i64 6)).run Tryz.prog v = .ok (.slice (some ⟨v.heap.size, 0, none⟩) 6 6) (v.alloc (Obj.cells (madeCells #[.float .f64 0] 6) 24)) := fun v => by
    exact run_make_row' (P := Tryz.prog) 32 24 (.float .f64 0) 8 Tryz.underlying32 infoF64 rfl .i64 .i64 6 (by omega) (by omega) v
  have M2 : ∀ v : World, (Instr.makeSlice 33 (.int .i64 6) (.int .i64 6)).run Tryz.prog v = .ok (.slice (some ⟨v.heap.size, 0, none⟩) 6 6) (v.alloc (Obj.cells (madeCells #[.int .i64 0] 6) 2)) := fun v => by
    exact run_make_row' (P := Tryz.prog) 33 2 (.int .i64 0) 8 Tryz.underlying33 info64 rfl .i64 .i64 6 (by omega) (by omega) v
  have M3 : ∀ v : World, (Instr.makeSlice 32 (.int .i64 12) (.int .i64 12)).run Tryz.prog v = .ok (.slice (some ⟨v.heap.size, 0, none⟩) 12 12) (v.alloc (Obj.cells (madeCells #[.float .f64 0] 12) 24)) := fun v => by
    exact run_make_row' (P := Tryz.prog) 32 24 (.float .f64 0) 8 Tryz.underlying32 infoF64 rfl .i64 .i64 12 (by omega) (by omega) v
  have AL : ∀ v : World, (Instr.alloc 35 true (.tuple #[])).run Tryz.prog v = .ok (.pointer (some ⟨v.heap.size, 0, none⟩)) (v.alloc (.cells #[.slice none 0 0, .slice none 0 0, .slice none 0 0, .slice none 0 0, .int .i64 0, .int .i64 0] 35)) := fun v => by
    simp [go_sem]
  have A0 : Hid (Ab w (w.alloc (.cells #[.slice none 0 0, .slice none 0 0, .slice none 0 0, .slice none 0 0, .int .i64 0, .int .i64 0] 35))) := bl1 _ _
  go_enter Tryz.func13, Tryz.ntmps13
  go_wp2_with fail
  refine (CC.out _ A0.out).mono ?_
  rintro e9 vq ⟨rfl, hvq⟩
  have hvq2 := hvq.symm
  subst hvq2
  go_wp2_with fail
  refine (CE.out _ A0.out).mono ?_
  rintro e9 vq ⟨rfl, hvq⟩
  have hvq2 := hvq.symm
  subst hvq2
  go_upto_region 4 with fail
  generalize hW : World.alloc w _ = W at *
  go_cut [4] from 22 to 31 (fun s4 wx => ∃ g4 b1 b2 b3 b4, s4 = .pointer (some ⟨g4, 0, none⟩) ∧ Ab W wx ∧ wx.heap[g4]? = some (.cells #[.slice (some ⟨b1, 0, none⟩) 6 6, .slice (some ⟨b2, 0, none⟩) 6 6, .slice (some ⟨b3, 0, none⟩) 6 6, .slice (some ⟨b4, 0, none⟩) 12 12, .int .i64 0, .int .i64 0] 35) ∧ wx.heap[b1]? = some (Obj.cells (madeCells #[.float .f64 0] 6) 24) ∧ wx.heap[b2]? = some (Obj.cells (madeCells #[.int .i64 0] 6) 2) ∧ wx.heap[b3]? = some (Obj.cells (madeCells #[.int .i64 0] 6) 2) ∧ wx.heap[b4]? = some (Obj.cells (madeCells #[.float .f64 0] 12) 24) ∧ W.heap.size ≤ g4 ∧ W.heap.size ≤ b1 ∧ W.heap.size ≤ b2 ∧ W.heap.size ≤ b3 ∧ W.heap.size ≤ b4 ∧ g4 ≠ b1 ∧ g4 ≠ b2 ∧ g4 ≠ b3 ∧ g4 ≠ b4 ∧ b1 ≠ b2 ∧ b1 ≠ b3 ∧ b1 ≠ b4 ∧ b2 ≠ b3 ∧ b2 ≠ b4 ∧ b3 ≠ b4)
  case first =>
    obtain ⟨UU, E, hF1, hF2⟩ := cls W.drew
    have HU := hid hF2
    clear hF1 hF2
    refine region_free 11 (fun k => if k = 1 then some ((Obj.cells (madeCells #[.float .f64 0] 6) 24), fun b => .slice (some ⟨b, 0, none⟩) 6 6) else if k = 3 then some ((Obj.cells (madeCells #[.int .i64 0] 6) 2), fun b => .slice (some ⟨b, 0, none⟩) 6 6) else if k = 5 then some ((Obj.cells (madeCells #[.int .i64 0] 6) 2), fun b => .slice (some ⟨b, 0, none⟩) 6 6) else if k = 8 then some ((Obj.cells (madeCells #[.float .f64 0] 12) 24), fun b => .slice (some ⟨b, 0, none⟩) 12 12) else if k = 10 then some ((.cells #[.slice none 0 0, .slice none 0 0, .slice none 0 0, .slice none 0 0, .int .i64 0, .int .i64 0] 35), fun b => .pointer (some ⟨b, 0, none⟩)) else none) (by kernel_rfl) (by kernel_rfl) (by kernel_rfl) ?_
    simp only [List.take_succ_cons, List.take_zero]
    refine wpFree_one HU (by rfl) (by rfl) ?_
    go_big_quiet_step (with_reducible rfl)
    refine wpQuiet_nil ?_
    refine wpFree_lay (ob := (Obj.cells (madeCells #[.float .f64 0] 6) 24)) (mk := fun b => .slice (some ⟨b, 0, none⟩) 6 6) (by rfl) (by kernel_rfl) ?_ ?_
    · refine lay_make (vx := .int .i64 6) (vy := .int .i64 6) (ob := (Obj.cells (madeCells #[.float .f64 0] 6) 24)) (mk := fun b => .slice (some ⟨b, 0, none⟩) 6 6) rfl ?_ ?_ ?_
      · rfl
      · rfl
      · exact M1
    intro b1 fb1
    simp only [Act.put, List.setIfInBounds_toArray, List.set_cons_succ, List.set_cons_zero]
    refine wpFree_one HU (by rfl) (by rfl) ?_
    go_big_quiet_step (with_reducible rfl)
    refine wpQuiet_nil ?_
    refine wpFree_lay (ob := (Obj.cells (madeCells #[.int .i64 0] 6) 2)) (mk := fun b => .slice (some ⟨b, 0, none⟩) 6 6) (by rfl) (by kernel_rfl) ?_ ?_
    · refine lay_make (vx := .int .i64 6) (vy := .int .i64 6) (ob := (Obj.cells (madeCells #[.int .i64 0] 6) 2)) (mk := fun b => .slice (some ⟨b, 0, none⟩) 6 6) rfl ?_ ?_ ?_
      · rfl
      · rfl
      · exact M2
    intro b2 fb2
    simp only [Act.put, List.setIfInBounds_toArray, List.set_cons_succ, List.set_cons_zero]
    refine wpFree_one HU (by rfl) (by rfl) ?_
    go_big_quiet_step (with_reducible rfl)
    refine wpQuiet_nil ?_
    refine wpFree_lay (ob := (Obj.cells (madeCells #[.int .i64 0] 6) 2)) (mk := fun b => .slice (some ⟨b, 0, none⟩) 6 6) (by rfl) (by kernel_rfl) ?_ ?_
    · refine lay_make (vx := .int .i64 6) (vy := .int .i64 6) (ob := (Obj.cells (madeCells #[.int .i64 0] 6) 2)) (mk := fun b => .slice (some ⟨b, 0, none⟩) 6 6) rfl ?_ ?_ ?_
      · rfl
      · rfl
      · exact M2
    intro b3 fb3
    simp only [Act.put, List.setIfInBounds_toArray, List.set_cons_succ, List.set_cons_zero]
    refine wpFree_one HU (by rfl) (by rfl) ?_
    go_big_quiet_step (with_reducible rfl)
    refine wpQuiet_nil ?_
    refine wpFree_one HU (by rfl) (by rfl) ?_
    go_big_quiet_step (with_reducible rfl)
    refine wpQuiet_nil ?_
    refine wpFree_lay (ob := (Obj.cells (madeCells #[.float .f64 0] 12) 24)) (mk := fun b => .slice (some ⟨b, 0, none⟩) 12 12) (by rfl) (by kernel_rfl) ?_ ?_
    · refine lay_make (vx := .int .i64 12) (vy := .int .i64 12) (ob := (Obj.cells (madeCells #[.float .f64 0] 12) 24)) (mk := fun b => .slice (some ⟨b, 0, none⟩) 12 12) rfl ?_ ?_ ?_
      · rfl
      · rfl
      · exact M3
    intro b4 fb4
    simp only [Act.put, List.setIfInBounds_toArray, List.set_cons_succ, List.set_cons_zero]
    refine wpFree_one HU (by rfl) (by rfl) ?_
    go_big_quiet_step (with_reducible rfl)
    refine wpQuiet_nil ?_
    refine wpFree_lay (ob := (.cells #[.slice none 0 0, .slice none 0 0, .slice none 0 0, .slice none 0 0, .int .i64 0, .int .i64 0] 35)) (mk := fun b => .pointer (some ⟨b, 0, none⟩)) (by rfl) (by kernel_rfl) ?_ ?_
    · refine lay_alloc (ob := (.cells #[.slice none 0 0, .slice none 0 0, .slice none 0 0, .slice none 0 0, .int .i64 0, .int .i64 0] 35)) (mk := fun b => .pointer (some ⟨b, 0, none⟩)) rfl ?_
      · exact AL
    intro g4 fg4
    simp only [Act.put, List.setIfInBounds_toArray, List.set_cons_succ, List.set_cons_zero]

    refine wpFree_nil ?_
    intro wz hz
    have h1 := hz.at (i := 1) (b := b1) (ob := (Obj.cells (madeCells #[.float .f64 0] 6) 24)) (by rfl) (by rfl)
    have h2 := hz.at (i := 3) (b := b2) (ob := (Obj.cells (madeCells #[.int .i64 0] 6) 2)) (by rfl) (by rfl)
    have h3 := hz.at (i := 5) (b := b3) (ob := (Obj.cells (madeCells #[.int .i64 0] 6) 2)) (by rfl) (by rfl)
    have h4 := hz.at (i := 8) (b := b4) (ob := (Obj.cells (madeCells #[.float .f64 0] 12) 24)) (by rfl) (by rfl)
    have h5 := hz.at (i := 10) (b := g4) (ob := (.cells #[.slice none 0 0, .slice none 0 0, .slice none 0 0, .slice none 0 0, .int .i64 0, .int .i64 0] 35)) (by rfl) (by rfl)
    have n12 : b1 ≠ b2 := fb2.2 1 b1 (by rfl)
    have n13 : b1 ≠ b3 := fb3.2 1 b1 (by rfl)
    have n14 : b1 ≠ b4 := fb4.2 1 b1 (by rfl)
    have n15 : b1 ≠ g4 := fg4.2 1 b1 (by rfl)
    have n23 : b2 ≠ b3 := fb3.2 3 b2 (by rfl)
    have n24 : b2 ≠ b4 := fb4.2 3 b2 (by rfl)
    have n25 : b2 ≠ g4 := fg4.2 3 b2 (by rfl)
    have n34 : b3 ≠ b4 := fb4.2 5 b3 (by rfl)
    have n35 : b3 ≠ g4 := fg4.2 5 b3 (by rfl)
    have n45 : b4 ≠ g4 := fg4.2 8 b4 (by rfl)
    have AZ : Ab W wz := (Ab.refl W).drew.trans hz.1
    have RZ := hid h5.1
    have HH := hid (And.intro h1 (And.intro h2 (And.intro h3 (And.intro h4 h5))))
    have NN := hid (And.intro n12 (And.intro n13 (And.intro n14 (And.intro n15 (And.intro n23 (And.intro n24 (And.intro n25 (And.intro n34 (And.intro n35 n45)))))))))
    have HAZ := hid AZ
    clear hz fb1 fb2 fb3 fb4 fg4 h1 h2 h3 h4 h5 n12 n13 n14 n15 n23 n24 n25 n34 n35 n45 AZ HU
    clear E UU
    have t0 := cell_of_row _ _ 0 _ _ _ RZ.out
    have t1 := cell_of_row _ _ 1 _ _ _ RZ.out
    have t2 := cell_of_row _ _ 2 _ _ _ RZ.out
    have t3 := cell_of_row _ _ 3 _ _ _ RZ.out
    have t4 := cell_of_row _ _ 4 _ _ _ RZ.out
    have t5 := cell_of_row _ _ 5 _ _ _ RZ.out
    have f0 := free_row RZ.out 0
    have f1 := free_row RZ.out 1
    have f2 := free_row RZ.out 2
    have f3 := free_row RZ.out 3
    have f4 := free_row RZ.out 4
    have f5 := free_row RZ.out 5
    simp only [List.drop_succ_cons, List.drop_zero]
    go_wp2_with fail
    go_meet
    obtain ⟨⟨k1, l1⟩, ⟨k2, l2⟩, ⟨k3, l3⟩, ⟨k4, l4⟩, ⟨k5, l5⟩⟩ := HH.out
    obtain ⟨n12, n13, n14, n15, n23, n24, n25, n34, n35, n45⟩ := NN.out
    have st : ∀ (b : Nat) (o : Obj), b ≠ g4 → wz.heap[b]? = some o → ∀ x0 x1 x2 x3 x4 x5, ((((((wz.setCell ⟨g4, 0, none⟩ x0).setCell ⟨g4, 1, none⟩ x1).setCell ⟨g4, 2, none⟩ x2).setCell ⟨g4, 3, none⟩ x3).setCell ⟨g4, 4, none⟩ x4).setCell ⟨g4, 5, none⟩ x5).heap[b]? = some o := fun b o hb h x0 x1 x2 x3 x4 x5 => by
      rw [heap_set_ne hb, heap_set_ne hb, heap_set_ne hb, heap_set_ne hb, heap_set_ne hb, heap_set_ne hb]
      exact h
    refine ⟨g4, b1, b2, b3, b4, rfl, ?_, row6 k5, st b1 _ n15 k1 _ _ _ _ _ _, st b2 _ n25 k2 _ _ _ _ _ _, st b3 _ n35 k3 _ _ _ _ _ _, st b4 _ n45 k4 _ _ _ _ _ _, l5, l1, l2, l3, l4, Ne.symm n15, Ne.symm n25, Ne.symm n35, Ne.symm n45, n12, n13, n14, n23, n24, n34⟩
    exact (((((HAZ.out.setk l5 _).setk l5 _).setk l5 _).setk l5 _).setk l5 _).setk l5 _
  case rest =>
    obtain ⟨g4, b1, b2, b3, b4, rfl, a4, r4, m1, m2, m3, m4, l5, l1, l2, l3, l4, n51, n52, n53, n54, n12, n13, n14, n23, n24, n34⟩ := hcut
    obtain ⟨gd, hgd⟩ : ∃ x, w.heap.size = x := ⟨_, rfl⟩
    have HL : Hid (gd + 1 ≤ b1 ∧ gd + 1 ≤ b2 ∧ gd + 1 ≤ b3 ∧ gd + 1 ≤ b4 ∧ gd + 1 ≤ g4) := by
      rw [← hW, size1] at l1 l2 l3 l4 l5
      rw [← hgd]
      exact ⟨l1, l2, l3, l4, l5⟩
    have NN : Hid (g4 ≠ b2 ∧ b1 ≠ b2 ∧ b3 ≠ b2 ∧ b4 ≠ b2 ∧ b1 ≠ b4 ∧ b3 ≠ b4) := ⟨n52, n12, Ne.symm n23, Ne.symm n24, n14, n34⟩
    have ZR : Hid (W.heap[gd]? = some (.cells #[.slice none 0 0, .slice none 0 0, .slice none 0 0, .slice none 0 0, .int .i64 0, .int .i64 0] 35)) := by rw [← hW, ← hgd]; exact heap_alloc_new _ _
    have AWW : Hid (Ab w W) := A0.out
    have FI := hid (show LkI w gd g4 b1 b2 b3 b4 0 wc from ⟨AWW.out.trans a4, r4, Ab.heap a4 ZR.out, made_row m1, (made_row m2).congr (fun i _ => by simp), made_row m3, made_row m4⟩)
    have HG := hid g
    have HN : Hid (w.heap.size = gd) := hgd
    rw [hgd]
    clear a4 r4 m1 m2 m3 m4 l1 l2 l3 l4 l5 n51 n52 n53 n54 n12 n13 n14 n23 n24 n34 hgd hW ZR AWW g CC CE M1 M2 M3 AL A0
    go_wp2
    go_loopw [5] (fun iv wr => ∃ c : Nat, c ≤ 6 ∧ iv = .int .i64 (c : Nat) ∧ LkI w gd g4 b1 b2 b3 b4 c wr) (fun iv _ => 6 - (intOf iv).toNat)
    case atStart => exact ⟨0, by omega, rfl, FI.out⟩
    case round =>
      obtain ⟨c, hc, rfl, F⟩ := hrel
      clear FI
      have FF := hid F
      clear F
      by_cases hc6 : c < 6
      · have hc' : (c : Int) < 6 := by omega
        have HC6 := hid hc6
        have AR : Hid (∀ v, Ab w v → Calls Tryz.prog 36 #[.pointer (some ⟨gb, 0, none⟩), .int .i64 (c : Nat)] v fun e w' => e = .returned (.int .i64 1431655765) ∧ Below v.heap.size v w') := fun v hv => by
          have h := gArea_ok (n := 1) (by decide) hc6 (HG.out.to hv)
          rwa [ar13 c hc6] at h
        clear hc6
        go_upto_region 8 with fail
        obtain ⟨UU, E, hF1, hF2⟩ := cls wr
        have HU := hid hF2
        have HU1 := hid hF1
        have x1 : ∀ u, (E u).cell? ⟨g4, 1, none⟩ = some (.slice (some ⟨b2, 0, none⟩) 6 6) := fun u => cell_of_row _ _ 1 _ _ _ (FF.out.to (hF1 u)).2.1
        have HX : Hid (∀ u, Ab w (E u)) := fun u => (FF.out.to (hF1 u)).1
        have DD0 := HU.out _ (Ab.refl wr).drew
        clear hF1 hF2
        refine region_tail 7 E (by kernel_rfl) (by kernel_rfl) (by kernel_rfl) DD0 ?_
        simp only [List.take_succ_cons, List.take_zero, List.drop_succ_cons, List.drop_zero]
        repeat (go_big_quiet_step (first
          | (with_reducible rfl)
          | (go_at_call 36; exact calls_cls HU HU1 (AR.out _ (HX.out _)))))
        refine wpQuiet_nil ?_
        intro vz hwz
        obtain ⟨u0, hu⟩ := hwz
        have AZ : Hid (Ab wr vz) := by rw [hu]; exact HU1.out u0
        clear hu u0
        clear HU HU1 HX DD0 x1
        clear E UU
        have FZ := hid (FF.out.to AZ.out)
        have z1 := FZ.out.2.2.2.2.1.cell HC6.out
        have z2 := FZ.out.2.2.2.2.1.frozen c
        go_upto_region 9 with fail
        have F2 := hid (FZ.out.set NN.out HL.out c 1431655765 (by rw [HN.out]; exact Nat.le_refl _))
        clear z1 z2 FZ FF AZ
        generalize World.setCell vz _ _ = v2 at *
        by_cases c1 : c = 1
        · subst c1
          have y1 := cell_of_row _ _ 1 _ _ _ F2.out.2.1
          have p1 : v2.cell? ⟨b2, 1, none⟩ = some (.int .i64 1431655765) := by rw [F2.out.2.2.2.2.1.cell HC6.out]; simp
          have p2 := F2.out.2.2.2.2.1.frozen 1
          go_upto_region 10 with fail
          clear y1 p1 p2
          obtain ⟨UU, E, hF1, hF2⟩ := cls v2
          have HU := hid hF2
          have HU1 := hid hF1
          have x1 : ∀ u, (E u).cell? ⟨g4, 1, none⟩ = some (.slice (some ⟨b2, 0, none⟩) 6 6) := fun u => cell_of_row _ _ 1 _ _ _ ((hF1 u).heap F2.out.2.1)
          have x2 : ∀ u, (E u).cell? ⟨b2, 1, none⟩ = some (.int .i64 1431655765) := fun u => by rw [(rowIs.ab F2.out.2.2.2.2.1 (hF1 u)).cell HC6.out]; simp
          have DD0 := HU.out _ (Ab.refl v2).drew
          clear hF1 hF2
          refine region_tail 10 E (by kernel_rfl) (by kernel_rfl) (by kernel_rfl) DD0 ?_
          simp only [List.take_succ_cons, List.take_zero, List.drop_succ_cons, List.drop_zero]
          repeat (go_big_quiet_step (with_reducible rfl))
          refine wpQuiet_nil ?_
          intro vz hwz
          obtain ⟨u0, hu⟩ := hwz
          have AZ : Hid (Ab v2 vz) := by rw [hu]; exact HU1.out u0
          clear hu u0
          clear HU HU1 DD0 x1 x2
          clear E UU
          have F3 := hid (F2.out.to2 AZ.out)
          have z1 := F3.out.2.2.2.2.1.cell HC6.out
          have z2 := F3.out.2.2.2.2.1.frozen 1
          go_wp2
          refine ⟨⟨2, by omega, by simp, ?_⟩, by simp [intOf]⟩
          exact (F3.out.set NN.out HL.out 1 2863311530 (by rw [HN.out]; exact Nat.le_refl _)).fin (fun i => by
            by_cases e : i = 1
            · simp [e, lkW]
            · by_cases e2 : i < 1
              · have : i < 2 := by omega
                simp [e, e2, this]
              · have : ¬ i < 2 := by omega
                simp [e, e2, this])
        · have c2 : ((c : Int) == 1) = false := by rw [beq_eq_false_iff_ne]; omega
          go_wp2
          refine ⟨⟨c + 1, by have := HC6.out; omega, by simp, ?_⟩, by simp [intOf]; have := HC6.out; omega⟩
          exact F2.out.fin (fun i => by
            by_cases e : i = c
            · subst e
              simp [lkW, c1]
            · by_cases l : i < c
              · simp [e, l, show i < c + 1 by omega]
              · simp [e, l, show ¬ i < c + 1 by omega])
      · have e6 : c = 6 := by omega
        subst e6
        have s0 := cell_of_row _ _ 0 _ _ _ FF.out.2.1
        have s1 := cell_of_row _ _ 1 _ _ _ FF.out.2.1
        have s2 := cell_of_row _ _ 2 _ _ _ FF.out.2.1
        have s3 := cell_of_row _ _ 3 _ _ _ FF.out.2.1
        have s4 := cell_of_row _ _ 4 _ _ _ FF.out.2.1
        have s5 := cell_of_row _ _ 5 _ _ _ FF.out.2.1
        have RZ := FF.out.2.2.1
        have t0 := cell_of_row _ _ 0 _ _ _ RZ
        have t1 := cell_of_row _ _ 1 _ _ _ RZ
        have t2 := cell_of_row _ _ 2 _ _ _ RZ
        have t3 := cell_of_row _ _ 3 _ _ _ RZ
        have t4 := cell_of_row _ _ 4 _ _ _ RZ
        have t5 := cell_of_row _ _ 5 _ _ _ RZ
        have f0 := free_row RZ 0
        have f1 := free_row RZ 1
        have f2 := free_row RZ 2
        have f3 := free_row RZ 3
        have f4 := free_row RZ 4
        have f5 := free_row RZ 5
        have ROW := hid (row6 (x := .slice (some ⟨b1, 0, none⟩) 6 6) (y := .slice (some ⟨b2, 0, none⟩) 6 6) (z := .slice (some ⟨b3, 0, none⟩) 6 6) (p := .slice (some ⟨b4, 0, none⟩) 12 12) (q := .int .i64 0) (r := .int .i64 0) RZ)
        clear RZ
        go_wp2
        have BN : Hid (b1 ≠ gd ∧ b2 ≠ gd ∧ b3 ≠ gd ∧ b4 ≠ gd) := by
          have := HL.out
          exact ⟨by omega, by omega, by omega, by omega⟩
        have G1 := FF.out.2.2.2.1
        have G2 := FF.out.2.2.2.2.1
        have G3 := FF.out.2.2.2.2.2.1
        have G4 := FF.out.2.2.2.2.2.2
        have GA := FF.out.1
        refine bodyPost_ret ?_ rfl ⟨b1, b2, b3, b4, rfl, ?_, ?_, ?_, ?_, ?_, ?_⟩
        · exact results_cell_row Tryz.results13 _ _ gd _ _ (0, 0) _ rfl ROW.out Tryz.underlying35 rfl (by kernel_rfl)
        · exact (((((GA.setk (by rw [HN.out]; omega) _).setk (by rw [HN.out]; omega) _).setk (by rw [HN.out]; omega) _).setk (by rw [HN.out]; omega) _).setk (by rw [HN.out]; omega) _).setk (by rw [HN.out]; omega) _
        · exact (((((G1.setOther BN.out.1 _).setOther BN.out.1 _).setOther BN.out.1 _).setOther BN.out.1 _).setOther BN.out.1 _).setOther BN.out.1 _
        · exact ((((((G2.congr (fun i hi => by simp [hi])).setOther BN.out.2.1 _).setOther BN.out.2.1 _).setOther BN.out.2.1 _).setOther BN.out.2.1 _).setOther BN.out.2.1 _).setOther BN.out.2.1 _
        · exact (((((G3.setOther BN.out.2.2.1 _).setOther BN.out.2.2.1 _).setOther BN.out.2.2.1 _).setOther BN.out.2.2.1 _).setOther BN.out.2.2.1 _).setOther BN.out.2.2.1 _
        · exact (((((G4.setOther BN.out.2.2.2 _).setOther BN.out.2.2.2 _).setOther BN.out.2.2.2 _).setOther BN.out.2.2.2 _).setOther BN.out.2.2.2 _).setOther BN.out.2.2.2 _
        · have := HL.out
          exact ⟨by rw [HN.out]; omega, NN.out.2.2.2.2.1, Ne.symm NN.out.2.2.2.1, NN.out.2.2.2.2.2⟩
end Go.Proofs.YtomenbbhdnfciaaGreatDoor

namespace Go.Proofs.YtomenbbhdnfciaaGreatDoor
open Tf Ieee
theorem infW_form (s : Bool) : infW s = if s = true then 9223372036854775808 + 9218868437227405312 else 9218868437227405312 := by cases s <;> rfl
/-- a product's magnitude hangs on the magnitudes alone, its sign on the signs -/
theorem mul_form (a b : Nat) (_ha : a < 18446744073709551616) (hb : b < 18446744073709551616) :
    (∀ s, s < 18446744073709551616 → mg s = mg a → double.mul s b = none) ∨
    ∃ m, m ≤ 9218868437227405312 ∧ ∀ s, s < 18446744073709551616 → mg s = mg a → double.mul s b = some (if (ng s ^^ ng b) = true then 9223372036854775808 + m else m) := by
  rcases three b with kb | kb | kb
  · rcases three a with ka | ka | ka
    · refine .inr ⟨min (rung 52 1074 (mv (mg a) * mv (mg b))) 9218868437227405312, Nat.min_le_right _ _, fun s hs e => ?_⟩
      rw [mul_d s b hs hb (by omega) kb, e]
    · by_cases z : mg b = 0
      · refine .inl fun s hs e => ?_
        rw [mul_if s b hs hb (by omega) kb, if_pos z]
      · refine .inr ⟨9218868437227405312, Nat.le_refl _, fun s hs e => ?_⟩
        rw [mul_if s b hs hb (by omega) kb, if_neg z, infW_form]
    · refine .inl fun s hs e => mul_nan s b (.inl ?_)
      rw [isN_true] at ka ⊢
      omega
  · rcases three a with ka | ka | ka
    · by_cases z : mg a = 0
      · refine .inl fun s hs e => ?_
        rw [mul_fi s b hs hb (by omega) kb, if_pos (by omega)]
      · refine .inr ⟨9218868437227405312, Nat.le_refl _, fun s hs e => ?_⟩
        rw [mul_fi s b hs hb (by omega) kb, if_neg (by omega), infW_form]
    · refine .inr ⟨9218868437227405312, Nat.le_refl _, fun s hs e => ?_⟩
      rw [mul_ii s b hs hb (by omega) kb, infW_form]
    · refine .inl fun s hs e => mul_nan s b (.inl ?_)
      rw [isN_true] at ka ⊢
      omega
  · exact .inl fun s _ _ => mul_nan s b (.inr kb)
theorem form_ng (s : Bool) {m : Nat} (h : m ≤ 9218868437227405312) : ng (if s = true then 9223372036854775808 + m else m) = s ∧ mg (if s = true then 9223372036854775808 + m else m) = m ∧ (if s = true then 9223372036854775808 + m else m) < 18446744073709551616 ∧ isN (if s = true then 9223372036854775808 + m else m) = false := by
  cases s
  · simp only [Bool.false_eq_true, if_false]
    have e : mg m = m := mg_of_lt (by omega)
    exact ⟨ng_of_lt (by omega), e, by omega, isN_false.2 (by omega)⟩
  · simp only [if_true]
    have e : mg (9223372036854775808 + m) = m := by unfold mg; omega
    exact ⟨ng_of_ge (by omega), e, by omega, isN_false.2 (by omega)⟩
/-- opposites: both NaN, or the one the other's opposite -/
def Opp (x y : Nat) : Prop := (isN x = true ∧ isN y = true) ∨ (isN x = false ∧ y = negB x)
theorem negB_form (s : Bool) {m : Nat} (h : m ≤ 9218868437227405312) : negB (if s = true then 9223372036854775808 + m else m) = if (!s) = true then 9223372036854775808 + m else m := by
  unfold negB
  rw [(form_ng s h).1]
  cases s
  · simp only [Bool.false_eq_true, if_false, Bool.not_false, if_true]; omega
  · simp only [if_true, Bool.not_true, Bool.false_eq_true, if_false]; omega
theorem Opp.mul {x y b : Nat} (hx : x < 18446744073709551616) (hb : b < 18446744073709551616) (hy : y < 18446744073709551616) (h : Opp x y) : Opp (mlB x b) (mlB y b) := by
  rcases h with ⟨n1, n2⟩ | ⟨n1, rfl⟩
  · refine .inl ⟨?_, ?_⟩
    · rw [mlB_none (mul_nan x b (.inl n1))]; decide
    · rw [mlB_none (mul_nan y b (.inl n2))]; decide
  · rcases mul_form x b hx hb with h | ⟨m, hm, h⟩
    · refine .inl ⟨?_, ?_⟩
      · rw [mlB_none (h x hx rfl)]; decide
      · rw [mlB_none (h _ hy (negB_mg hx))]; decide
    · refine .inr ⟨?_, ?_⟩
      · rw [mlB_some (h x hx rfl)]; exact (form_ng _ hm).2.2.2
      · rw [mlB_some (h x hx rfl), mlB_some (h _ hy (negB_mg hx)), negB_form _ hm, negB_ng hx]
        cases ng x <;> cases ng b <;> rfl
/-- not below nothing, or a NaN -/
def Nnn (x : Nat) : Prop := isN x = true ∨ ng x = false
theorem Nnn.mul {x b : Nat} (hx : x < 18446744073709551616) (hb : b < 18446744073709551616) (h : Nnn x) (k : Nnn b) : Nnn (mlB x b) := by
  rcases h with h | h
  · left; rw [mlB_none (mul_nan x b (.inl h))]; decide
  · rcases k with k | k
    · left; rw [mlB_none (mul_nan x b (.inr k))]; decide
    · rcases mul_form x b hx hb with e | ⟨m, hm, e⟩
      · left; rw [mlB_none (e x hx rfl)]; decide
      · right; rw [mlB_some (e x hx rfl), (form_ng _ hm).1, h, k]; rfl
/-- nothing, or a NaN -/
def Zn (x : Nat) : Prop := isN x = true ∨ mg x = 0
theorem Zn.mul {x b : Nat} (hx : x < 18446744073709551616) (hb : b < 18446744073709551616) (h : Zn x) : Zn (mlB x b) := by
  rcases h with h | h
  · left; rw [mlB_none (mul_nan x b (.inl h))]; decide
  · rcases three b with k | k | k
    · right
      have e : mv (mg x) * mv (mg b) = 0 := by rw [h, mv_zero, Nat.zero_mul]
      have r : rung 52 1074 0 = 0 := by decide +kernel
      rw [mlB_some (mul_d x b hx hb (by omega) k), e, r, Nat.zero_min]
      cases (ng x ^^ ng b) <;> decide
    · left; rw [mlB_none (by rw [mul_fi x b hx hb (by omega) k, if_pos h])]; decide
    · left; rw [mlB_none (mul_nan x b (.inr k))]; decide
theorem clamp_zn {x : Nat} (hx : x < 18446744073709551616) (h : Zn x) : clampB x 4503599627370496 = 0 := by
  rcases h with h | h
  · unfold clampB; rw [if_pos h]
  · have : x = 0 ∨ x = 9223372036854775808 := by unfold mg at h; omega
    rcases this with rfl | rfl <;> decide +kernel
theorem clamp_inq {x : Nat} (hx : x < 18446744073709551616) : -4503599627370496 ≤ clampB x 4503599627370496 ∧ clampB x 4503599627370496 ≤ 4503599627370496 := by
  have m : clampM 4503599627370496 = 4503599627370496 := by decide
  cases n : isN x
  · rw [clampB_num x _ hx n, m]
    repeat' split
    all_goals omega
  · unfold clampB; rw [if_pos n]; omega
/-- the four floats' product, and the quanta -/
def qt4 (u d l t : Nat) : Nat := mlB (mlB (mlB (mlB u d) l) t) 4742290407621132288
def qnB (u d l t : Nat) : Int := clampB (qt4 u d l t) 4503599627370496
section
variable {u d l t : Nat} (hu : u < 18446744073709551616) (hd : d < 18446744073709551616) (hl : l < 18446744073709551616) (ht : t < 18446744073709551616)
theorem qt_lt (hu : u < 18446744073709551616) (hd : d < 18446744073709551616) (hl : l < 18446744073709551616) (ht : t < 18446744073709551616) : mlB u d < 18446744073709551616 ∧ mlB (mlB u d) l < 18446744073709551616 ∧ mlB (mlB (mlB u d) l) t < 18446744073709551616 ∧ qt4 u d l t < 18446744073709551616 := by
  have a := mlB_lt hu hd
  have b := mlB_lt a hl
  have c := mlB_lt b ht
  exact ⟨a, b, c, mlB_lt c (by decide)⟩
theorem qn_in (hu : u < 18446744073709551616) (hd : d < 18446744073709551616) (hl : l < 18446744073709551616) (ht : t < 18446744073709551616) : -4503599627370496 ≤ qnB u d l t ∧ qnB u d l t ≤ 4503599627370496 := clamp_inq (qt_lt hu hd hl ht).2.2.2
theorem qn_z1 (hu : u < 18446744073709551616) (hd : d < 18446744073709551616) (hl : l < 18446744073709551616) (ht : t < 18446744073709551616) (z : mg u = 0) : qnB u d l t = 0 := by
  have a := qt_lt hu hd hl ht
  have h0 : Zn u := .inr z
  exact clamp_zn a.2.2.2 ((((h0.mul hu hd).mul a.1 hl).mul a.2.1 ht).mul a.2.2.1 (by decide))
end
end Go.Proofs.YtomenbbhdnfciaaGreatDoor
