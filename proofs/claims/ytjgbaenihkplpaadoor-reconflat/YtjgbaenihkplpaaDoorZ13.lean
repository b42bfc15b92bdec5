/-
  Some of the texts of this proof, one behind the other.
-/
import Derived.Test.YtjgbaenihkplpaaDoorZ03
import Derived.Test.YtjgbaenihkplpaaDoorZ12
import Derived.Test.YtjgbaenihkplpaaDoorZ05
import Derived.Deep.RegionWith
import Derived.Test.YtjgbaenihkplpaaDoorZ07
import Derived.Test.YtjgbaenihkplpaaDoorZ08
import Derived.Test.YtjgbaenihkplpaaDoorZ09
/-
  A sea of side 1 with these depths: the walk.
-/
namespace Go.Proofs.YtjgbaenihkplpaaDoor
open Go.RowKit Tf Cu Go.Deep
attribute [local go_sem] run_bits run_from raw_feq raw_fne raw_flt raw_fgt run_neg run_store_float
theorem size1 (W : World) (A : Obj) : (W.alloc A).heap.size = W.heap.size + 1 := by
  show (W.heap.push A).size = _
  simp
theorem four (W : World) (A B C D : Obj) : ((((W.alloc A).alloc B).alloc C).alloc D).heap[W.heap.size]? = some A ∧ ((((W.alloc A).alloc B).alloc C).alloc D).heap[W.heap.size + 1]? = some B ∧ ((((W.alloc A).alloc B).alloc C).alloc D).heap[W.heap.size + 1 + 1]? = some C ∧ ((((W.alloc A).alloc B).alloc C).alloc D).heap[W.heap.size + 1 + 1 + 1]? = some D := by
  have q0 := heap_alloc_new W A
  have q1 := heap_alloc_new (W.alloc A) B
  have q2 := heap_alloc_new ((W.alloc A).alloc B) C
  have q3 := heap_alloc_new (((W.alloc A).alloc B).alloc C) D
  rw [size1] at q1
  rw [size1, size1] at q2
  rw [size1, size1, size1] at q3
  exact ⟨Ab.heap (bl1 _ _) (Ab.heap (bl1 _ _) (Ab.heap (bl1 _ _) q0)), Ab.heap (bl1 _ _) (Ab.heap (bl1 _ _) q1), Ab.heap (bl1 _ _) q2, q3⟩
theorem four_ab {w W : World} (h : Ab w W) (A B C D : Obj) : Ab w ((((W.alloc A).alloc B).alloc C).alloc D).drew := ((((h.alloc A).alloc B).alloc C).alloc D).drew
theorem cell_dd {v : World} {g : Nat} {dd : Nat → Int} (h : v.heap[g]? = some (.cells #[.int .i64 (dd 0), .int .i64 (dd 1), .int .i64 (dd 2), .int .i64 (dd 3), .int .i64 (dd 4), .int .i64 (dd 5)] 60)) {c : Nat} (hc : c < 6) : v.cell? ⟨g, c, none⟩ = some (.int .i64 (dd c)) := by
  match c, hc with
  | 0, _ => exact cell_of_row _ _ 0 _ _ _ h
  | 1, _ => exact cell_of_row _ _ 1 _ _ _ h
  | 2, _ => exact cell_of_row _ _ 2 _ _ _ h
  | 3, _ => exact cell_of_row _ _ 3 _ _ _ h
  | 4, _ => exact cell_of_row _ _ 4 _ _ _ h
  | 5, _ => exact cell_of_row _ _ 5 _ _ _ h
theorem made_row {v : World} {g n : Nat} {z : Value} {T : TypeId} (h : v.heap[g]? = some (Obj.cells (madeCells #[z] n) T)) : v.rowIs g T n (fun _ => z) := by
  have e := World.rowIs_made v z n T
  have l := heap_alloc_new v (Obj.cells (madeCells #[z] n) T)
  obtain ⟨c, h1, h2⟩ := e
  rw [l] at h1
  exact ⟨c, h.trans h1, h2⟩
/-- behind c rounds -/
def FlI (w : World) (gd g5 b1 b2 b3 : Nat) (dd : Nat → Int) (c : Nat) (v : World) : Prop :=
  Ab w v ∧ v.heap[g5]? = some (.cells #[.slice (some ⟨b1, 0, none⟩) 6 6, .slice (some ⟨b2, 0, none⟩) 6 6, .slice none 0 0, .slice (some ⟨b3, 0, none⟩) 12 12, .int .i64 0, .int .i64 0] 25) ∧ v.heap[gd]? = some (.cells #[.int .i64 (dd 0), .int .i64 (dd 1), .int .i64 (dd 2), .int .i64 (dd 3), .int .i64 (dd 4), .int .i64 (dd 5)] 60) ∧ v.rowIs b1 28 6 (fun _ => .float .f64 0) ∧ v.rowIs b2 2 6 (fun i => .int .i64 (if i < c then dd i * arI (ArC 1 i) else 0)) ∧ v.rowIs b3 28 12 (fun _ => .float .f64 0) ∧ v.heap[gd + 1]? = some (.cells #[.slice none 0 0, .slice none 0 0, .slice none 0 0, .slice none 0 0, .int .i64 0, .int .i64 0] 25)
theorem FlI.to {w : World} {gd g5 b1 b2 b3 : Nat} {dd : Nat → Int} {c : Nat} {v v' : World} (h : FlI w gd g5 b1 b2 b3 dd c v) (a : Ab v v') : FlI w gd g5 b1 b2 b3 dd c v' := by
  obtain ⟨h1, h2, h3, h4, h5, h6, h7⟩ := h
  exact ⟨h1.trans a, a.heap h2, a.heap h3, rowIs.ab h4 a, rowIs.ab h5 a, rowIs.ab h6 a, a.heap h7⟩
theorem row6 {w : World} {g : Nat} {a b c d e f x y z p q r : Value} {T : TypeId} (h : w.heap[g]? = some (.cells #[a, b, c, d, e, f] T)) :
    ((((((w.setCell ⟨g, 0, none⟩ x).setCell ⟨g, 1, none⟩ y).setCell ⟨g, 2, none⟩ z).setCell ⟨g, 3, none⟩ p).setCell ⟨g, 4, none⟩ q).setCell ⟨g, 5, none⟩ r).heap[g]? = some (.cells #[x, y, z, p, q, r] T) := by
  have h1 := one_set (v := x) (k := 0) h
  have h2 := one_set (v := y) (k := 1) h1
  have h3 := one_set (v := z) (k := 2) h2
  have h4 := one_set (v := p) (k := 3) h3
  have h5 := one_set (v := q) (k := 4) h4
  have h6 := one_set (v := r) (k := 5) h5
  simpa using h6
theorem heap_set_ne {v : World} {b k g : Nat} {x : Value} (h : g ≠ b) : (v.setCell ⟨b, k, none⟩ x).heap[g]? = v.heap[g]? := blk_setCell_other _ _ _ _ h
theorem FlI.set {w : World} {gd g5 b1 b2 b3 : Nat} {dd : Nat → Int} {c : Nat} {v : World} (h : FlI w gd g5 b1 b2 b3 dd c v) (hw : w.heap.size ≤ b2) (n1 : g5 ≠ b2) (n2 : gd ≠ b2) (n3 : b1 ≠ b2) (n4 : b3 ≠ b2) (n5 : gd + 1 ≠ b2) : FlI w gd g5 b1 b2 b3 dd (c + 1) (v.setCell ⟨b2, c, none⟩ (.int .i64 (dd c * arI (ArC 1 c)))) := by
  obtain ⟨h1, h2, h3, h4, h5, h6, h7⟩ := h
  refine ⟨h1.setk hw _, by rw [heap_set_ne n1]; exact h2, by rw [heap_set_ne n2]; exact h3, h4.setOther n3 _, (h5.set c _).congr (fun i _ => ?_), h6.setOther n4 _, by rw [heap_set_ne n5]; exact h7⟩
  by_cases e : i = c
  · subst e; simp
  · by_cases l : i < c
    · simp [e, l, show i < c + 1 by omega]
    · simp [e, l, show ¬ i < c + 1 by omega]
set_option maxRecDepth 100000 in
set_option maxHeartbeats 16000000 in
theorem flat_at {gb : Nat} {dd : Nat → Int} (w : World) (g : GridOf 1 gb w) (hm : ∀ c, c < 6 → IntKind.i64.wrap (dd c * arI (ArC 1 c)) = dd c * arI (ArC 1 c)) :
    Calls Tryd.prog 26 #[.pointer (some ⟨gb, 0, none⟩), .agg #[.int .i64 (dd 0), .int .i64 (dd 1), .int .i64 (dd 2), .int .i64 (dd 3), .int .i64 (dd 4), .int .i64 (dd 5)]] w fun e w' => ∃ b1 b2 b3, e = .returned (.agg #[.slice (some ⟨b1, 0, none⟩) 6 6, .slice (some ⟨b2, 0, none⟩) 6 6, .slice none 0 0, .slice (some ⟨b3, 0, none⟩) 12 12, .int .i64 0, .int .i64 0]) ∧ Below w.heap.size w w' ∧ w'.rowIs b1 28 6 (fun _ => .float .f64 0) ∧ w'.rowIs b2 2 6 (fun i => .int .i64 (if i < 6 then dd i * arI (ArC 1 i) else 0)) ∧ w'.rowIs b3 28 12 (fun _ => .float .f64 0) := by
  have M1 : ∀ v : World, (Instr.makeSlice 22 (.int .i64 6) (.int .i64 6)).run Tryd.prog v = .ok (.slice (some ⟨v.heap.size, 0, none⟩) 6 6) (v.alloc (Obj.cells (madeCells #[.float .f64 0] 6) 28)) := fun v => by
    exact run_make_row' (P := Tryd.prog) 22 28 (.float .f64 0) 8 Tryd.underlying22 infoF64 rfl .i64 .i64 6 (by omega) (by omega) v
  have M2 : ∀ v : World, (Instr.makeSlice 23 (.int .i64 6) (.int .i64 6)).run Tryd.prog v = .ok (.slice (some ⟨v.heap.size, 0, none⟩) 6 6) (v.alloc (Obj.cells (madeCells #[.int .i64 0] 6) 2)) := fun v => by
    exact run_make_row' (P := Tryd.prog) 23 2 (.int .i64 0) 8 Tryd.underlying23 info64 rfl .i64 .i64 6 (by omega) (by omega) v
  have M3 : ∀ v : World, (Instr.makeSlice 22 (.int .i64 12) (.int .i64 12)).run Tryd.prog v = .ok (.slice (some ⟨v.heap.size, 0, none⟩) 12 12) (v.alloc (Obj.cells (madeCells #[.float .f64 0] 12) 28)) := fun v => by
    exact run_make_row' (P := Tryd.prog) 22 28 (.float .f64 0) 8 Tryd.underlying22 infoF64 rfl .i64 .i64 12 (by omega) (by omega) v
  go_enter Tryd.func26, Tryd.ntmps26
  go_upto_region 1 with fail
  have DR : Hid (((w.alloc (.cells #[.int .i64 (dd 0), .int .i64 (dd 1), .int .i64 (dd 2), .int .i64 (dd 3), .int .i64 (dd 4), .int .i64 (dd 5)] 60)).alloc (.cells #[.slice none 0 0, .slice none 0 0, .slice none 0 0, .slice none 0 0, .int .i64 0, .int .i64 0] 25)).heap[w.heap.size]? = some (.cells #[.int .i64 (dd 0), .int .i64 (dd 1), .int .i64 (dd 2), .int .i64 (dd 3), .int .i64 (dd 4), .int .i64 (dd 5)] 60)) := Ab.heap (bl1 _ _) (heap_alloc_new _ _)
  have ZR : Hid (((w.alloc (.cells #[.int .i64 (dd 0), .int .i64 (dd 1), .int .i64 (dd 2), .int .i64 (dd 3), .int .i64 (dd 4), .int .i64 (dd 5)] 60)).alloc (.cells #[.slice none 0 0, .slice none 0 0, .slice none 0 0, .slice none 0 0, .int .i64 0, .int .i64 0] 25)).heap[w.heap.size + 1]? = some (.cells #[.slice none 0 0, .slice none 0 0, .slice none 0 0, .slice none 0 0, .int .i64 0, .int .i64 0] 25)) := by
    have h := heap_alloc_new (w.alloc (.cells #[.int .i64 (dd 0), .int .i64 (dd 1), .int .i64 (dd 2), .int .i64 (dd 3), .int .i64 (dd 4), .int .i64 (dd 5)] 60)) (.cells #[.slice none 0 0, .slice none 0 0, .slice none 0 0, .slice none 0 0, .int .i64 0, .int .i64 0] 25)
    rwa [size1] at h
  have A2 : Hid (Ab w ((w.alloc (.cells #[.int .i64 (dd 0), .int .i64 (dd 1), .int .i64 (dd 2), .int .i64 (dd 3), .int .i64 (dd 4), .int .i64 (dd 5)] 60)).alloc (.cells #[.slice none 0 0, .slice none 0 0, .slice none 0 0, .slice none 0 0, .int .i64 0, .int .i64 0] 25))) := bl2 _ _ _
  generalize hW : World.alloc (World.alloc w _) _ = W at *
  go_cut [5] from 7 to 10 (fun s5 wx => ∃ g5 b1 b2 b3, s5 = .pointer (some ⟨g5, 0, none⟩) ∧ Ab W wx ∧ wx.heap[g5]? = some (.cells #[.slice (some ⟨b1, 0, none⟩) 6 6, .slice (some ⟨b2, 0, none⟩) 6 6, .slice none 0 0, .slice (some ⟨b3, 0, none⟩) 12 12, .int .i64 0, .int .i64 0] 25) ∧ wx.heap[b1]? = some (Obj.cells (madeCells #[.float .f64 0] 6) 28) ∧ wx.heap[b2]? = some (Obj.cells (madeCells #[.int .i64 0] 6) 2) ∧ wx.heap[b3]? = some (Obj.cells (madeCells #[.float .f64 0] 12) 28) ∧ W.heap.size ≤ g5 ∧ W.heap.size ≤ b2 ∧ W.heap.size ≤ b1 ∧ W.heap.size ≤ b3 ∧ g5 ≠ b2 ∧ b1 ≠ b2 ∧ b3 ≠ b2)
  case first =>
    go_region_with fail
    all_goals go_wp2_with fail
    all_goals go_meet
    all_goals refine' ⟨_, _, _, _, rfl, four_ab (Ab.refl W) _ _ _ _, (by first | exact (four W _ _ _ _).2.2.2 | exact (four W _ _ _ _).2.2.1 | exact (four W _ _ _ _).2.1 | exact (four W _ _ _ _).1), ?_, ?_, ?_, ?_, ?_, ?_, ?_, ?_, ?_, ?_⟩
    all_goals first
      | exact (four W _ _ _ _).1
      | exact (four W _ _ _ _).2.1
      | exact (four W _ _ _ _).2.2.1
      | exact (four W _ _ _ _).2.2.2
      | omega
  case rest =>
    obtain ⟨g5, b1, b2, b3, rfl, A1, r5, r1, r2, r3, l5, l2, l1, l3, n1, n2, n3⟩ := hcut
    obtain ⟨gd, hgd⟩ : ∃ x, w.heap.size = x := ⟨_, rfl⟩
    have HG := hid g
    have HM := hid hm
    have L2 := hid (show gd + 2 ≤ b2 by rw [← hW, size1, size1] at l2; omega)
    have L1 := hid (show gd + 2 ≤ b1 by rw [← hW, size1, size1] at l1; omega)
    have L3 := hid (show gd + 2 ≤ b3 by rw [← hW, size1, size1] at l3; omega)
    rw [hgd] at DR ZR
    have FI := hid (show FlI w gd g5 b1 b2 b3 dd 0 wc from ⟨A2.out.trans A1, r5, Ab.heap A1 DR.out, made_row r1, (made_row r2).congr (fun i _ => by simp), made_row r3, Ab.heap A1 ZR.out⟩)
    have N1 := hid n1
    have N2 := hid n2
    have N3 := hid n3
    have HN : Hid (w.heap.size = gd) := hgd
    clear g hm l5 l2 l1 l3 A1 r5 r1 r2 r3 n1 n2 n3 DR ZR A2 hW M1 M2 M3
    go_wp2
    go_loopw [6] (fun iv wr => ∃ c : Nat, c ≤ 6 ∧ iv = .int .i64 (c : Nat) ∧ FlI w gd g5 b1 b2 b3 dd c wr) (fun iv _ => 6 - (intOf iv).toNat)
    case atStart => exact ⟨0, by omega, rfl, FI.out⟩
    case round =>
      obtain ⟨c, hc, rfl, F⟩ := hrel
      clear FI
      have FF := hid F
      clear F
      by_cases hc6 : c < 6
      · have hc' : (c : Int) < 6 := by omega
        have MM := HM.out c hc6
        have AR : Hid (∀ v, Ab w v → Calls Tryd.prog 17 #[.pointer (some ⟨gb, 0, none⟩), .int .i64 (c : Nat)] v fun e w' => e = .returned (.int .i64 (arI (ArC 1 c))) ∧ Below v.heap.size v w') := fun v hv => gArea_ok (by decide) hc6 (HG.out.to hv)
        have DC : Hid (∀ v, Ab wr v → FlI w gd g5 b1 b2 b3 dd c v) := fun v hv => FF.out.to hv
        have HC6 := hid hc6
        clear hc6
        generalize hp : dd c * arI (ArC 1 c) = P at *
        have HP : Hid (dd c * arI (ArC 1 c) = P) := hp
        obtain ⟨X, hX⟩ : ∃ X, dd c = X := ⟨_, rfl⟩
        obtain ⟨Y, hY⟩ : ∃ Y, arI (ArC 1 c) = Y := ⟨_, rfl⟩
        rw [hY] at AR
        have MM2 : IntKind.i64.wrap (X * Y) = P := by rw [← hX, ← hY, hp]; exact MM
        clear hp MM
        go_upto_region 5 with fail
        obtain ⟨UU, E, hF1, hF2⟩ := cls wr
        have HU := hid hF2
        have HU1 := hid hF1
        have x1 : ∀ u, (E u).cell? ⟨g5, 1, none⟩ = some (.slice (some ⟨b2, 0, none⟩) 6 6) := fun u => cell_of_row _ _ 1 _ _ _ (DC.out _ (hF1 u)).2.1
        have x2 : ∀ u, (E u).cell? ⟨gd, c, none⟩ = some (.int .i64 X) := fun u => by rw [← hX]; exact cell_dd (DC.out _ (hF1 u)).2.2.1 HC6.out
        have HX : Hid (∀ u, Ab w (E u)) := fun u => (DC.out _ (hF1 u)).1
        have DD0 := HU.out _ (Ab.refl wr).drew
        clear hF1 hF2
        refine region_tail 11 E (by kernel_rfl) (by kernel_rfl) (by kernel_rfl) DD0 ?_
        simp only [List.take_succ_cons, List.take_zero, List.drop_succ_cons, List.drop_zero]
        repeat (go_big_quiet_step (first
          | (with_reducible rfl)
          | (go_at_call 17; exact calls_cls HU HU1 (AR.out _ (HX.out _)))))
        refine wpQuiet_nil ?_
        intro vz hwz
        obtain ⟨u0, hu⟩ := hwz
        have AZ : Hid (Ab wr vz) := by rw [hu]; exact HU1.out u0
        clear hu u0
        clear HU HU1 HX DD0 x1 x2
        clear E UU
        have FZ := hid (DC.out _ AZ.out)
        have z1 := FZ.out.2.2.2.2.1.cell HC6.out
        have z2 := FZ.out.2.2.2.2.1.frozen c
        go_wp2
        refine ⟨⟨c + 1, by have := HC6.out; omega, by simp, ?_⟩, by simp [intOf]; have := HC6.out; omega⟩
        rw [← HP.out]
        exact FZ.out.set (by rw [HN.out]; have := L2.out; omega) N1.out (by have := L2.out; omega) N2.out N3.out (by have := L2.out; omega)
      · have e6 : c = 6 := by omega
        subst e6
        have s0 := cell_of_row _ _ 0 _ _ _ FF.out.2.1
        have s1 := cell_of_row _ _ 1 _ _ _ FF.out.2.1
        have s2 := cell_of_row _ _ 2 _ _ _ FF.out.2.1
        have s3 := cell_of_row _ _ 3 _ _ _ FF.out.2.1
        have s4 := cell_of_row _ _ 4 _ _ _ FF.out.2.1
        have s5 := cell_of_row _ _ 5 _ _ _ FF.out.2.1
        have RZ := FF.out.2.2.2.2.2.2
        have t0 := cell_of_row _ _ 0 _ _ _ RZ
        have t1 := cell_of_row _ _ 1 _ _ _ RZ
        have t2 := cell_of_row _ _ 2 _ _ _ RZ
        have t3 := cell_of_row _ _ 3 _ _ _ RZ
        have t4 := cell_of_row _ _ 4 _ _ _ RZ
        have t5 := cell_of_row _ _ 5 _ _ _ RZ
        have f0 := free_row RZ 0
        have f1 := free_row RZ 1
        have f2 := free_row RZ 2
        have f3 := free_row RZ 3
        have f4 := free_row RZ 4
        have f5 := free_row RZ 5
        have ROW := hid (row6 (x := .slice (some ⟨b1, 0, none⟩) 6 6) (y := .slice (some ⟨b2, 0, none⟩) 6 6) (z := .slice none 0 0) (p := .slice (some ⟨b3, 0, none⟩) 12 12) (q := .int .i64 0) (r := .int .i64 0) RZ)
        clear RZ
        go_wp2
        have BN : Hid (gd + 1 ≠ b1 ∧ gd + 1 ≠ b2 ∧ gd + 1 ≠ b3) := ⟨by have := L1.out; omega, by have := L2.out; omega, by have := L3.out; omega⟩
        have G1 := FF.out.2.2.2.1
        have G2 := FF.out.2.2.2.2.1
        have G3 := FF.out.2.2.2.2.2.1
        have GA := FF.out.1
        refine bodyPost_ret ?_ rfl ⟨b1, b2, b3, rfl, ?_, ?_, ?_, ?_⟩
        · exact results_cell_row Tryd.results26 _ _ (w.heap.size + 1) _ _ (0, 0) _ rfl (by rw [HN.out]; exact ROW.out) Tryd.underlying25 rfl (by kernel_rfl)
        · exact (((((GA.setk (by rw [HN.out]; omega) _).setk (by rw [HN.out]; omega) _).setk (by rw [HN.out]; omega) _).setk (by rw [HN.out]; omega) _).setk (by rw [HN.out]; omega) _).setk (by rw [HN.out]; omega) _
        · exact (((((G1.setOther BN.out.1.symm _).setOther BN.out.1.symm _).setOther BN.out.1.symm _).setOther BN.out.1.symm _).setOther BN.out.1.symm _).setOther BN.out.1.symm _
        · exact (((((G2.setOther BN.out.2.1.symm _).setOther BN.out.2.1.symm _).setOther BN.out.2.1.symm _).setOther BN.out.2.1.symm _).setOther BN.out.2.1.symm _).setOther BN.out.2.1.symm _
        · exact (((((G3.setOther BN.out.2.2.symm _).setOther BN.out.2.2.symm _).setOther BN.out.2.2.symm _).setOther BN.out.2.2.symm _).setOther BN.out.2.2.symm _).setOther BN.out.2.2.symm _
end Go.Proofs.YtjgbaenihkplpaaDoor

/-
  Vectors doubled, by plain numbers (no program).
-/
namespace Go.Proofs.YtjgbaenihkplpaaDoor
open Tf Ieee
def Hi (h x : Nat) : Prop := mg x = 0 ∨ (238690780250636288 ≤ mg x ∧ mg x ≤ h)
theorem Hi.md {h x : Nat} (k : Hi h x) (hh : h + 4503599627370496 < 9218868437227405312) : Md x := by
  rcases k with k | k
  · exact .inl k
  · exact .inr ⟨by omega, by omega⟩
theorem mv_52 {r : Nat} (h : 238690780250636288 ≤ r) : ∃ q, mv r = q * 4503599627370496 := by
  unfold mv mag
  have e : (2 : Nat) ^ 52 = 4503599627370496 := by decide
  rw [if_neg (by omega), e]
  obtain ⟨j, hj⟩ : ∃ j, r / 4503599627370496 - 1 = 52 + j := ⟨r / 4503599627370496 - 1 - 52, by omega⟩
  rw [hj, Nat.pow_add, e]
  exact ⟨(4503599627370496 + r % 4503599627370496) * 2 ^ j, by rw [← Nat.mul_assoc, Nat.mul_right_comm]⟩
theorem Hi.sv {h x : Nat} (k : Hi h x) : ∃ q : Int, sv x = q * 4503599627370496 := by
  unfold Tf.sv
  rcases k with k | k
  · rw [k, mv_zero]; exact ⟨0, by cases ng x <;> rfl⟩
  · obtain ⟨q, hq⟩ := mv_52 k.1
    rw [hq]
    cases ng x
    · exact ⟨q, by simp⟩
    · exact ⟨-q, by simp; omega⟩
theorem Hi.abs {h x : Nat} (k : Hi h x) : (Tf.sv x).natAbs ≤ mv h := by
  have : (Tf.sv x).natAbs = mv (mg x) := by unfold Tf.sv; cases ng x <;> simp
  rw [this]
  rcases k with k | k
  · rw [k, mv_zero]; omega
  · exact mv_le.2 k.2
theorem sum_ok {h a b : Nat} (ka : Hi h a) (kb : Hi h b) (h1 : 4503599627370496 ≤ h) (h2 : h + 9007199254740992 < 9218868437227405312) :
    (sv a + sv b = 0 ∨ (4503599627370496 ≤ (sv a + sv b).natAbs ∧ rung 52 0 (sv a + sv b).natAbs + 4503599627370496 ≤ 9218868437227405312)) ∧ rung 52 0 (sv a + sv b).natAbs ≤ h + 4503599627370496 := by
  obtain ⟨p, hp⟩ := ka.sv
  obtain ⟨q, hq⟩ := kb.sv
  have x1 := ka.abs
  have x2 := kb.abs
  have hle : rung 52 0 (sv a + sv b).natAbs ≤ h + 4503599627370496 := by
    refine rung_le (by omega) ?_
    rw [Nat.pow_zero, Nat.mul_one]
    have : mv (h + 4503599627370496) = 2 * mv h := mv_dbl h1
    show _ ≤ mv (h + 4503599627370496)
    omega
  refine ⟨?_, hle⟩
  by_cases c : sv a + sv b = 0
  · exact .inl c
  · refine .inr ⟨?_, by omega⟩
    rw [hp, hq] at c ⊢
    have : p + q ≠ 0 := by
      intro e
      have : p * 4503599627370496 + q * 4503599627370496 = (p + q) * 4503599627370496 := by rw [Int.add_mul]
      rw [this, e] at c
      exact c (by omega)
    omega
theorem addB_db {h a b : Nat} (ha : a < 18446744073709551616) (hb : b < 18446744073709551616) (ka : Hi h a) (kb : Hi h b) (h1 : 4503599627370496 ≤ h) (h2 : h + 9007199254740992 < 9218868437227405312) :
    addB (db a) (db b) = db (addB a b) ∧ Md (addB a b) := by
  have ma := ka.md (by omega)
  have mb := kb.md (by omega)
  obtain ⟨s1, s2⟩ := sum_ok ka kb h1 h2
  rw [addB_fin _ _ (db_lt ma.w ha) (db_lt mb.w hb) ma.dfin mb.dfin, addB_fin a b ha hb ma.fin mb.fin, db_sv ma ha, db_sv mb hb, ← Int.mul_add, rn_dbl false s1]
  refine ⟨rfl, ?_⟩
  unfold Md
  rw [rn_mg]
  rcases s1 with s1 | s1
  · rw [s1]; left; rw [show (0 : Int).natAbs = 0 from rfl, rung_none]; rfl
  · right
    have hb := rung_ge (p := 52) (d := 0) (r := 4503599627370496) (V := (sv a + sv b).natAbs) (by omega) (by
      rw [Nat.pow_zero, Nat.mul_one, show mag 52 4503599627370496 = 4503599627370496 by decide]; exact s1.1)
    generalize rung 52 0 (sv a + sv b).natAbs = r at *
    omega
theorem sbB_db {h a b : Nat} (ha : a < 18446744073709551616) (hb : b < 18446744073709551616) (ka : Hi h a) (kb : Hi h b) (h1 : 4503599627370496 ≤ h) (h2 : h + 9007199254740992 < 9218868437227405312) :
    sbB (db a) (db b) = db (sbB a b) ∧ Md (sbB a b) := by
  have mb := kb.md (by omega)
  have kn : Hi h (negB b) := by unfold Hi; rw [negB_mg hb]; exact kb
  unfold sbB
  rw [← db_neg mb hb]
  exact addB_db ha (negB_lt' hb) ka kn h1 h2
/-- a number that is no less than nothing -/
def Ps (h x : Nat) : Prop := Hi h x ∧ x < 9223372036854775808
theorem Ps.lt {h x : Nat} (k : Ps h x) : x < 18446744073709551616 := by have := k.2; omega
theorem Ps.ng {h x : Nat} (k : Ps h x) : Tf.ng x = false := ng_of_lt k.2
theorem Ps.mg {h x : Nat} (k : Ps h x) : Tf.mg x = x := mg_of_lt k.2
theorem Ps.up {h g x : Nat} (k : Ps h x) (hg : h ≤ g) : Ps g x := ⟨by rcases k.1 with a | a; exact .inl a; exact .inr ⟨a.1, by omega⟩, k.2⟩
theorem Ps.db {h x : Nat} (k : Ps h x) (hh : h + 4503599627370496 < 9218868437227405312) : Ps (h + 4503599627370496) (db x) := by
  have m := k.1.md hh
  have e := db_mg m.w
  have e2 := db_ng m.w k.lt
  rw [k.ng] at e2
  refine ⟨?_, lt_of_ng e2⟩
  unfold Hi
  rw [e]
  rcases k.1 with a | a
  · rw [if_pos a]; exact .inl rfl
  · rw [if_neg (by omega)]; exact .inr ⟨by omega, by omega⟩
theorem plB_db {h a b : Nat} (ka : Ps h a) (kb : Ps h b) (h1 : 4503599627370496 ≤ h) (h2 : h + 9007199254740992 < 9218868437227405312) :
    plB (db a) (db b) = db (plB a b) ∧ Ps (h + 4503599627370496) (plB a b) := by
  have ma := ka.1.md (by omega)
  have mb := kb.1.md (by omega)
  obtain ⟨s1, s2⟩ := sum_ok ka.1 kb.1 h1 h2
  rw [plB_some (add_d _ _ (db_lt ma.w ka.lt) (db_lt mb.w kb.lt) ma.dfin mb.dfin), plB_some (add_d a b ka.lt kb.lt ma.fin mb.fin), db_sv ma ka.lt, db_sv mb kb.lt, ← Int.mul_add, db_ng ma.w ka.lt, rn_dbl _ s1, db_ng mb.w kb.lt]
  refine ⟨rfl, ?_⟩
  have ea : sv a = (mv a : Int) := by unfold sv; rw [ka.ng, ka.mg]; rfl
  have eb : sv b = (mv b : Int) := by unfold sv; rw [kb.ng, kb.mg]; rfl
  have hlt : rn (ng a && ng b) (sv a + sv b) < 9223372036854775808 := by
    rw [ka.ng, ea, eb]
    unfold rn
    have : ¬ ((mv a : Int) + (mv b : Int) < 0) := by omega
    rw [decide_eq_false this]
    simp only [Bool.false_and, ite_self, Bool.false_eq_true, if_false]
    exact Nat.lt_of_le_of_lt (Nat.min_le_right _ _) (by decide)
  refine ⟨?_, hlt⟩
  unfold Hi
  rw [rn_mg]
  rw [Nat.min_eq_left (by omega)]
  rcases ka.1 with a0 | a1
  · rcases kb.1 with b0 | b1
    · left
      rw [ka.mg] at a0
      rw [kb.mg] at b0
      rw [ea, eb, a0, b0, mv_zero]
      exact rung_none 0
    · right
      refine ⟨rung_ge (by omega) ?_, s2⟩
      rw [kb.mg] at b1
      rw [Nat.pow_zero, Nat.mul_one]
      have : mv 238690780250636288 ≤ mv b := mv_le.2 b1.1
      show mv 238690780250636288 ≤ _
      omega
  · right
    refine ⟨rung_ge (by omega) ?_, s2⟩
    rw [ka.mg] at a1
    rw [Nat.pow_zero, Nat.mul_one]
    have : mv 238690780250636288 ≤ mv a := mv_le.2 a1.1
    show mv 238690780250636288 ≤ _
    omega
theorem key_db {h a b : Nat} (ka : Ps h a) (kb : Ps h b) (hh : h + 4503599627370496 < 9218868437227405312) : (key (db b) < key (db a)) = (key b < key a) := by
  have da := ka.db hh
  have db' := kb.db hh
  have ea := db_mg (ka.1.md hh).w
  have eb := db_mg (kb.1.md hh).w
  unfold key
  rw [da.ng, db'.ng, ka.ng, kb.ng, ea, eb]
  apply propext
  by_cases ca : mg a = 0
  · by_cases cb : mg b = 0
    · rw [if_pos ca, if_pos cb, ca, cb]
    · rw [if_pos ca, if_neg cb]; omega
  · by_cases cb : mg b = 0
    · rw [if_neg ca, if_pos cb]; simp; omega
    · rw [if_neg ca, if_neg cb]; simp
theorem lo_db {h a b : Nat} (ka : Ps h a) (kb : Ps h b) (hh : h + 4503599627370496 < 9218868437227405312) : loB (db a) (db b) = db (loB a b) ∧ hiB (db a) (db b) = db (hiB a b) ∧ Ps h (loB a b) ∧ Ps h (hiB a b) := by
  have e := key_db ka kb hh
  unfold loB hiB
  by_cases c : key b < key a
  · rw [if_pos (by rw [e]; exact c), if_pos c, if_pos (by rw [e]; exact c), if_pos c]
    exact ⟨rfl, rfl, kb, ka⟩
  · rw [if_neg (by rw [e]; exact c), if_neg c, if_neg (by rw [e]; exact c), if_neg c]
    exact ⟨rfl, rfl, ka, kb⟩
theorem thB_db {h a b c : Nat} (ka : Ps h a) (kb : Ps h b) (kc : Ps h c) (h1 : 4503599627370496 ≤ h) (h2 : h + 13510798882111488 < 9218868437227405312) :
    thB (db a) (db b) (db c) = db (thB a b c) ∧ Ps (h + 9007199254740992) (thB a b c) := by
  obtain ⟨e1, e2, k1, k2⟩ := lo_db ka kb (by omega)
  obtain ⟨e3, e4, k3, k4⟩ := lo_db k2 kc (by omega)
  obtain ⟨e5, e6, k5, k6⟩ := lo_db k1 k3 (by omega)
  obtain ⟨p1, p2⟩ := plB_db k5 k6 h1 (by omega)
  obtain ⟨g, hg⟩ : ∃ g, h + 4503599627370496 = g := ⟨_, rfl⟩
  rw [hg] at p2
  have k7 : Ps g (hiB (hiB a b) c) := k4.up (by omega)
  obtain ⟨p3, p4⟩ := plB_db p2 k7 (by omega) (by omega)
  have p5 : Ps (h + 9007199254740992) (plB (plB (loB (loB a b) (loB (hiB a b) c)) (hiB (loB a b) (loB (hiB a b) c))) (hiB (hiB a b) c)) := p4.up (by omega)
  unfold thB
  rw [e1, e2, e3, e4, e5, e6, p1, p3]
  exact ⟨rfl, p5⟩
/-- from 1e-100 to 1e100, or nought -/
def In1 (x : Nat) : Prop := mg x = 0 ∨ (3110860544497550640 ≤ mg x ∧ mg x ≤ 6103021453049119613)
theorem In1.hi {x : Nat} (k : In1 x) : Hi 6103021453049119613 x := by
  rcases k with k | k
  · exact .inl k
  · exact .inr ⟨by omega, k.2⟩
theorem In1.md {x : Nat} (k : In1 x) : Md x := k.hi.md (by omega)
theorem pr_lo : mv 1599789920352257571 * 2 ^ K ≤ mv 3110860544497550640 * mv 3110860544497550640 := by decide +kernel
theorem pr_hi : mv 6103021453049119613 * mv 6103021453049119613 ≤ mv 7613934262404594417 * 2 ^ K := by decide +kernel
theorem pr_lg : 2 ^ (52 + K) ≤ mv 3110860544497550640 * mv 3110860544497550640 := by decide +kernel
theorem rung_ge' {d r V : Nat} (h : mv r * 2 ^ d ≤ V) : r ≤ rung 52 d V := rung_ge (by omega) h
theorem rung_le' {d r V : Nat} (h : V ≤ mv r * 2 ^ d) : rung 52 d V ≤ r := rung_le (by omega) h
theorem pr_rung {V : Nat} (h1 : mv 3110860544497550640 * mv 3110860544497550640 ≤ V) (h2 : V ≤ mv 6103021453049119613 * mv 6103021453049119613) :
    52 + 1074 ≤ V.log2 ∧ 1599789920352257571 ≤ rung 52 1074 V ∧ rung 52 1074 V ≤ 7613934262404594417 := by
  have hV : 2 ^ (52 + K) ≤ V := Nat.le_trans pr_lg h1
  have h0 : V ≠ 0 := by have := Nat.two_pow_pos (52 + K); omega
  refine ⟨?_, ?_, ?_⟩
  · have := (Nat.le_log2 h0).2 hV
    exact this
  · exact rung_ge' (d := K) (Nat.le_trans pr_lo h1)
  · exact rung_le' (d := K) (Nat.le_trans h2 pr_hi)
theorem In1.far {x y : Nat} (kx : In1 x) (ky : In1 y) : Far x y := by
  rcases kx with kx | kx
  · exact .inl (.inl kx)
  · rcases ky with ky | ky
    · exact .inl (.inr ky)
    · obtain ⟨a, b, c⟩ := pr_rung (Nat.mul_le_mul (mv_le.2 kx.1) (mv_le.2 ky.1)) (Nat.mul_le_mul (mv_le.2 kx.2) (mv_le.2 ky.2))
      exact .inr ⟨a, by omega⟩
theorem In1.prod {x y : Nat} (hx : x < 18446744073709551616) (hy : y < 18446744073709551616) (kx : In1 x) (ky : In1 y) : Hi 7613934262404594417 (mlB x y) := by
  rw [mul_w hx hy kx.md.fin ky.md.fin]
  show Hi _ (wd (ng x ^^ ng y) _)
  unfold Hi
  have z : (mg x = 0 ∨ mg y = 0) → mv (mg x) * mv (mg y) = 0 := by
    intro h
    rcases h with h | h
    · rw [h, mv_zero, Nat.zero_mul]
    · rw [h, mv_zero, Nat.mul_zero]
  rcases kx with kx | kx
  · rw [z (.inl kx), rung_none, Nat.zero_min, wd_mg (by omega)]; exact .inl rfl
  · rcases ky with ky | ky
    · rw [z (.inr ky), rung_none, Nat.zero_min, wd_mg (by omega)]; exact .inl rfl
    · obtain ⟨a, b, c⟩ := pr_rung (Nat.mul_le_mul (mv_le.2 kx.1) (mv_le.2 ky.1)) (Nat.mul_le_mul (mv_le.2 kx.2) (mv_le.2 ky.2))
      generalize rung 52 1074 (mv (mg x) * mv (mg y)) = r at *
      rw [Nat.min_eq_left (by omega), wd_mg (by omega)]
      exact .inr ⟨by omega, c⟩
theorem In1.sq {x : Nat} (hx : x < 18446744073709551616) (k : In1 x) : Ps 7613934262404594417 (sqB x) := by
  refine ⟨k.prod hx hx k, ?_⟩
  unfold sqB
  rw [mul_w hx hx k.md.fin k.md.fin, Bool.xor_self]
  simp only [Bool.false_eq_true, if_false]
  exact Nat.lt_of_le_of_lt (Nat.min_le_right _ _) (by decide)
theorem In1.sq_db {x : Nat} (hx : x < 18446744073709551616) (k : In1 x) : sqB (db x) = db (db (sqB x)) := by
  have m := k.md
  have md : Md (db x) := by
    unfold Md
    rw [db_mg m.w]
    rcases k with k | k
    · rw [if_pos k]; exact .inl rfl
    · rw [if_neg (by omega)]; exact .inr ⟨by omega, by omega⟩
  have f : Far x (db x) := by
    unfold Far
    rw [db_mg m.w]
    rcases k with k | k
    · exact .inl (.inl k)
    · rw [if_neg (by omega)]
      obtain ⟨a, b, c⟩ := pr_rung (Nat.mul_le_mul (mv_le.2 k.1) (mv_le.2 k.1)) (Nat.mul_le_mul (mv_le.2 k.2) (mv_le.2 k.2))
      have h0 : mv (mg x) * mv (mg x) ≠ 0 := by intro e; rw [e] at a; simp at a
      rw [mv_dbl (by omega), show mv (mg x) * (2 * mv (mg x)) = mv (mg x) * mv (mg x) * 2 by rw [Nat.mul_left_comm, Nat.mul_comm]]
      have hl : (mv (mg x) * mv (mg x) * 2).log2 = (mv (mg x) * mv (mg x)).log2 + 1 := by
        have := log2_mul_pow (mv (mg x) * mv (mg x)) 1 h0
        rwa [Nat.pow_one] at this
      rw [rung_dbl h0 a, hl]
      exact .inr ⟨by omega, by omega⟩
  unfold sqB
  rw [mlB_db hx (db_lt m.w hx) m md f, mlB_dbr hx hx m m (k.far k)]
/-- how long a doubled vector is -/
theorem In1.ln {x y z : Nat} (hx : x < 18446744073709551616) (hy : y < 18446744073709551616) (hz : z < 18446744073709551616) (kx : In1 x) (ky : In1 y) (kz : In1 z) :
    lnB (db x) (db y) (db z) = db (lnB x y z) ∧ Md (lnB x y z) := by
  have s1 := kx.sq hx
  have s2 := ky.sq hy
  have s3 := kz.sq hz
  obtain ⟨t1, t2⟩ := thB_db s1 s2 s3 (by omega) (by omega)
  obtain ⟨t3, _⟩ := thB_db (s1.db (by omega)) (s2.db (by omega)) (s3.db (by omega)) (by omega) (by omega)
  unfold lnB
  rw [kx.sq_db hx, ky.sq_db hy, kz.sq_db hz, t3, t1]
  refine rtB_db t2.lt t2.ng ?_
  rcases t2.1 with h | h
  · exact .inl h
  · exact .inr ⟨by omega, by omega⟩
theorem lv_db {l : Nat} (hl : l < 18446744073709551616) (hn : ng l = false) (m : Md l) : lvB (db l) = lvB l := by
  rw [lv_class hl hn, lv_class (db_lt m.w hl) (by rw [db_ng m.w hl]; exact hn)]
  unfold classB
  rw [db_mg m.w]
  rcases m with h | h
  · rw [if_pos h, h]
  · rw [if_neg (show ¬ mg l = 0 by omega)]
    rw [if_neg (show ¬ mg l + 4503599627370496 = 0 by omega), if_neg (show ¬ mg l + 4503599627370496 < 4503599627370496 by omega), if_pos (show mg l + 4503599627370496 < 9218868437227405312 by omega), if_neg (show ¬ mg l = 0 by omega), if_neg (show ¬ mg l < 4503599627370496 by omega), if_pos (show mg l < 9218868437227405312 by omega)]
theorem un_db {x l : Nat} (hx : x < 18446744073709551616) (hl : l < 18446744073709551616) (hn : ng l = false) (mx : Md x) (ml : Md l) : unB (db l) (db x) = unB l x := by
  unfold unB
  rw [lv_db hl hn ml]
  by_cases c : lvB l = true
  · rw [if_pos c, if_pos c]
    refine dvB_db hx hl mx ml ?_
    intro h
    rw [lv_class hl hn] at c
    unfold classB at c
    rw [if_pos h] at c
    simp at c
  · rw [if_neg c, if_neg c]
theorem can_db {m : Nat} (hc : canonB m = m) (k : Md m) : canonB (db m) = db m := by
  have hN : ¬ isN (db m) = true := by have := k.dfin; rw [isN_true]; omega
  unfold canonB
  rw [if_neg hN, db_mg k.w]
  rcases k with k | k
  · rw [if_pos k, if_pos rfl]
    unfold canonB at hc
    rw [if_neg (by rw [isN_true]; omega), if_pos k] at hc
    rw [← hc]; decide
  · rw [if_neg (show ¬ mg m = 0 by omega), if_neg (by omega)]
end Go.Proofs.YtjgbaenihkplpaaDoor

/-
  Doubled floats and products above nothing, by plain numbers (no program): for slopes that are kept small.
-/
namespace Go.Proofs.YtjgbaenihkplpaaDoor
open Tf Ieee
theorem mv_2 : mv 4611686018427387904 = 2 * 2 ^ K := by rw [← mv_ONE]; exact mv_dbl (r := 4607182418800017408) (by omega)
/-- a product of two floats that aren't below nothing -/
theorem ml_word {a b : Nat} (ha : a < 9218868437227405312) (hb : b < 9218868437227405312) : mlB a b = min (rung 52 1074 (mv a * mv b)) 9218868437227405312 := by
  have ma : mg a = a := mg_of_lt (by omega)
  have mb : mg b = b := mg_of_lt (by omega)
  rw [mul_w (by omega) (by omega) (by omega) (by omega), ng_of_lt (by omega), ng_of_lt (by omega), ma, mb]
  simp only [Bool.xor_self, Bool.false_eq_true, if_false]
theorem mv_sm {r : Nat} (h : r < 9007199254740992) : mv r = r := by
  by_cases c : r < 4503599627370496
  · have := mv_zero
    unfold mv mag
    rw [if_pos c]
  · rw [mv_parts (by omega), show r % 4503599627370496 = r - 4503599627370496 by omega, show r / 4503599627370496 - 1 = 0 by omega, Nat.pow_zero, Nat.mul_one]
    omega
/-- doubling: a whole number of units that is a float's, or too great -/
theorem dbl_ex (a : Nat) : ∃ r, mv r = 2 * mv a ∧ a ≤ r ∧ (a ≠ 0 → a < r) := by
  by_cases h : 4503599627370496 ≤ a
  · exact ⟨a + 4503599627370496, mv_dbl h, by omega, fun _ => by omega⟩
  · refine ⟨2 * a, ?_, by omega, fun _ => by omega⟩
    rw [mv_sm (r := 2 * a) (by omega), mv_sm (r := a) (by omega)]
theorem d2_word {a : Nat} (ha : a < 9218868437227405312) : mlB 4611686018427387904 a = min (rung 52 0 (2 * mv a)) 9218868437227405312 := by
  rw [ml_word (by omega) ha, mv_2, show 2 * 2 ^ K * mv a = (2 * mv a) * 2 ^ K by rw [Nat.mul_right_comm]]
  have h := rung_scale 52 0 K (2 * mv a)
  rw [Nat.zero_add] at h
  exact congrArg (min · 9218868437227405312) h
/-- 2 * a of a that isn't below nothing: exact, or the infinity -/
theorem d2_facts {a : Nat} (ha : a ≤ 9218868437227405312) : mlB 4611686018427387904 a ≤ 9218868437227405312 ∧ a ≤ mlB 4611686018427387904 a ∧ (mlB 4611686018427387904 a < 9218868437227405312 → mv (mlB 4611686018427387904 a) = 2 * mv a) := by
  by_cases h : a < 9218868437227405312
  · obtain ⟨r, h1, h2, -⟩ := dbl_ex a
    rw [d2_word h, ← h1, rung_mv]
    refine ⟨Nat.min_le_right _ _, by omega, fun k => ?_⟩
    rw [Nat.min_eq_left (by omega), h1]
  · obtain rfl : a = 9218868437227405312 := by omega
    have e : mlB 4611686018427387904 9218868437227405312 = 9218868437227405312 := by decide +kernel
    rw [e]
    exact ⟨Nat.le_refl _, Nat.le_refl _, fun k => by omega⟩
theorem d2_mono {a b : Nat} (h : a ≤ b) (hb : b ≤ 9218868437227405312) : mlB 4611686018427387904 a ≤ mlB 4611686018427387904 b := by
  by_cases k : b < 9218868437227405312
  · rw [d2_word (by omega), d2_word k]
    have := rung_mono (p := 52) (d := 0) (V := 2 * mv a) (V' := 2 * mv b) (by omega) (Nat.mul_le_mul_left 2 (mv_le.2 h))
    omega
  · obtain rfl : b = 9218868437227405312 := by omega
    have e : mlB 4611686018427387904 9218868437227405312 = 9218868437227405312 := by decide +kernel
    rw [e]
    exact (d2_facts (by omega)).1
/-- the product of both, doubled: whichever is doubled first -/
theorem leer_comm {a b : Nat} (ha : a < 9218868437227405312) (hb : b < 9218868437227405312) (da : mlB 4611686018427387904 a < 9218868437227405312) (db : mlB 4611686018427387904 b < 9218868437227405312) :
    mlB (mlB 4611686018427387904 a) b = mlB (mlB 4611686018427387904 b) a := by
  rw [ml_word da hb, ml_word db ha, (d2_facts (by omega)).2.2 da, (d2_facts (by omega)).2.2 db, show 2 * mv a * mv b = 2 * mv b * mv a by rw [Nat.mul_right_comm]]
/-- Superbee above nothing -/
def sbee (a b : Nat) : Nat := max (min (mlB 4611686018427387904 a) b) (min a (mlB 4611686018427387904 b))
theorem sbee_comm (a b : Nat) : sbee a b = sbee b a := by unfold sbee; omega
theorem sbee_facts {a b : Nat} (ha : a ≤ 9218868437227405312) (hb : b ≤ 9218868437227405312) : min a b ≤ sbee a b ∧ sbee a b ≤ max a b ∧ sbee a b ≤ mlB 4611686018427387904 (min a b) := by
  have fa := d2_facts ha
  have fb := d2_facts hb
  have mono : ∀ x y, x ≤ y → y ≤ 9218868437227405312 → mlB 4611686018427387904 x ≤ mlB 4611686018427387904 y := fun x y h k => d2_mono h k
  unfold sbee
  rcases Nat.le_total a b with h | h
  · rw [Nat.min_eq_left h]
    omega
  · rw [Nat.min_eq_right h]
    omega
end Go.Proofs.YtjgbaenihkplpaaDoor

/-
  A quotient of a doubled number, by plain numbers (no program).
-/
namespace Go.Proofs.YtjgbaenihkplpaaDoor
open Tf Ieee
def Er17 : Nat := 2030
theorem mv_E17 : mv 9146810843189477376 = 2 ^ (52 + Er17) := mv_two_pow Er17 _ (by decide)
theorem le_E17 {W d : Nat} (hW : W ≤ 2 ^ 57) (hd : d ≤ 2025) : W * 2 ^ d ≤ mv 9146810843189477376 := by
  rw [mv_E17]
  have h1 : 2 ^ d ≤ 2 ^ (Er17 - 5) := Nat.pow_le_pow_right (by omega) (by unfold Er17; omega)
  have h2 := Nat.mul_le_mul hW h1
  have e : 2 ^ 57 * 2 ^ (Er17 - 5) = 2 ^ (52 + Er17) := by rw [← Nat.pow_add]; congr 1
  rw [e] at h2
  exact h2
theorem quo_lo {m n : Nat} (m1 : 4503599627370496 ≤ m) (m2 : m < 9007199254740992) (n1 : 4503599627370496 ≤ n) (n2 : n < 9007199254740992) : 9007199254740992 ≤ m <<< 54 / n ∧ m <<< 54 / n ≤ 36028797018963968 := by
  rw [Nat.shiftLeft_eq]
  constructor
  · rw [Nat.le_div_iff_mul_le (by omega)]
    have := Nat.mul_le_mul_right (2 ^ 54) m1
    omega
  · refine Nat.div_le_of_le_mul ?_
    omega
set_option maxRecDepth 100000 in
theorem div_pos {x l : Nat} (x1 : 4503599627370496 ≤ x) (x2 : x < 9218868437227405312) (l1 : 4503599627370496 ≤ l) (l2 : l < 9218868437227405312) :
    ∃ W, 18014398509481984 ≤ W ∧ W ≤ 2 ^ 57 ∧ W = 2 * ((4503599627370496 + x % 4503599627370496) <<< 54 / (4503599627370496 + l % 4503599627370496)) + ((4503599627370496 + x % 4503599627370496) <<< 54 % (4503599627370496 + l % 4503599627370496) != 0).toNat ∧ double.div x l = some (double.nearest false W (((x / 4503599627370496 - 1 : Nat) : Int) - ((l / 4503599627370496 - 1 : Nat) : Int) - 55)) := by
  have ml : mg l = l := mg_of_lt (by omega)
  have mx : mg x = x := mg_of_lt (by omega)
  have el := read_norm (x := l) (by omega) (by omega)
  rw [ml, sgn_ng (by omega), ng_of_lt (by omega)] at el
  have ex := read_norm (x := x) (by omega) (by omega)
  rw [mx, sgn_ng (by omega), ng_of_lt (by omega)] at ex
  have hn : 4503599627370496 + l % 4503599627370496 ≠ 0 := by omega
  have lx : (4503599627370496 + x % 4503599627370496).log2 = 52 := log_m _ (Nat.mod_lt _ (by omega))
  have ll : (4503599627370496 + l % 4503599627370496).log2 = 52 := log_m _ (Nat.mod_lt _ (by omega))
  have hq := quo_lo (m := 4503599627370496 + x % 4503599627370496) (n := 4503599627370496 + l % 4503599627370496) (by omega) (by omega) (by omega) (by omega)
  refine ⟨_, ?_, ?_, rfl, ?_⟩
  · omega
  · have : ((4503599627370496 + x % 4503599627370496) <<< 54 % (4503599627370496 + l % 4503599627370496) != 0).toNat ≤ 1 := by cases ((4503599627370496 + x % 4503599627370496) <<< 54 % (4503599627370496 + l % 4503599627370496) != 0) <;> simp
    omega
  · show ((double.read x).quotient 54 (double.read l)).map double.write = _
    rw [ex, el]
    unfold Datum.quotient
    dsimp only
    rw [if_neg hn, lx, ll]
    simp only [Bool.xor_false]
    show some (double.nearest false _ _) = some (double.nearest false _ _)
    congr 2
    omega
theorem rung_E17 {V : Nat} (h : V ≤ mv 9146810843189477376) : rung 52 0 V ≤ 9146810843189477376 := by
  refine rung_le (by omega) ?_
  rw [Nat.pow_zero, Nat.mul_one]
  exact h
set_option maxRecDepth 100000 in
/-- a doubled number over the same: the quotient doubled -/
theorem dvB_dbn {x l : Nat} (x1 : 4503599627370496 ≤ x) (x2 : x + 4503599627370496 < 9218868437227405312) (l1 : 4503599627370496 ≤ l) (l2 : l < 9218868437227405312)
    (h1 : l / 4503599627370496 ≤ x / 4503599627370496 + 1010) (h2 : x / 4503599627370496 ≤ l / 4503599627370496 + 1006) :
    dvB (db x) l = db (dvB x l) ∧ 4503599627370496 ≤ dvB x l ∧ dvB x l ≤ 9146810843189477376 := by
  have ex : db x = x + 4503599627370496 := by unfold db; rw [mg_of_lt (by omega), if_neg (by omega)]
  obtain ⟨W, w1, w2, w3, e1⟩ := div_pos x1 (by omega) l1 l2
  obtain ⟨W', _, _, w3', e2⟩ := div_pos (x := x + 4503599627370496) (by omega) x2 l1 l2
  have hWW : W' = W := by rw [w3', w3, show (x + 4503599627370496) % 4503599627370496 = x % 4503599627370496 by omega]
  rw [hWW, show (x + 4503599627370496) / 4503599627370496 - 1 = (x / 4503599627370496 - 1) + 1 by omega] at e2
  clear w3 w3' hWW
  have hlp := d_lp
  have ha : 1 ≤ x / 4503599627370496 ∧ 1 ≤ l / 4503599627370496 := by omega
  generalize x / 4503599627370496 = a at *
  generalize l / 4503599627370496 = c at *
  obtain ⟨d, hd⟩ : ∃ d : Nat, (((a - 1 : Nat) : Int) - ((c - 1 : Nat) : Int) - 55) = double.leastPlace + (d : Int) := ⟨((((a - 1 : Nat) : Int) - ((c - 1 : Nat) : Int) - 55) - double.leastPlace).toNat, by omega⟩
  have hd2 : (((a - 1 + 1 : Nat) : Int) - ((c - 1 : Nat) : Int) - 55) = double.leastPlace + ((d + 1 : Nat) : Int) := by omega
  have hdle : d ≤ 2025 := by omega
  rw [nearest_up double false W d _ hd, d_word, d_inf] at e1
  rw [nearest_up double false W (d + 1) _ hd2, d_word, d_inf, Nat.pow_succ, ← Nat.mul_assoc] at e2
  have h0 : W * 2 ^ d ≠ 0 := Nat.mul_ne_zero (by omega) (by have := Nat.two_pow_pos d; omega)
  have hlog : 52 + 0 ≤ (W * 2 ^ d).log2 := by
    refine (Nat.le_log2 h0).2 ?_
    have e : (2 : Nat) ^ (52 + 0) = 4503599627370496 := by decide
    rw [e]
    have := Nat.two_pow_pos d
    exact Nat.le_trans (by omega) (Nat.le_mul_of_pos_right W this)
  have hb := rung_big hlog h0
  have hr := rung_dbl h0 hlog
  have hle := rung_E17 (le_E17 w2 hdle)
  have hfb : double.fractionBits = 52 := rfl
  rw [hfb] at e1 e2
  rw [hr] at e2
  generalize rung 52 0 (W * 2 ^ d) = r at *
  simp only [Bool.false_eq_true, if_false] at e1 e2
  rw [Nat.min_eq_left (by omega)] at e1 e2
  have can : ∀ q, 4503599627370496 ≤ q → q < 9218868437227405312 → canonB q = q := by
    intro q q1 q2
    have mq : mg q = q := mg_of_lt (by omega)
    unfold canonB
    rw [mq, if_neg (by unfold isN; rw [mq]; simp; omega), if_neg (by omega)]
  rw [ex, dvB_some e1, dvB_some e2, can r hb (by omega), can (r + 4503599627370496) (by omega) (by omega)]
  refine ⟨?_, hb, hle⟩
  unfold db
  rw [mg_of_lt (by omega), if_neg (by omega)]
end Go.Proofs.YtjgbaenihkplpaaDoor

/-
  Quotients, held against halfway points, by plain numbers (no program).
-/
namespace Go.Proofs.YtjgbaenihkplpaaDoor
open Tf Ieee
/-- the whole quotient twice, and one more where that isn't all -/
def stQ (N n : Nat) : Nat := 2 * (N / n) + (N % n != 0).toNat
theorem sq_lt {N n y : Nat} (hn : 0 < n) (h : y * n < N) : 2 * y < stQ N n := by
  have e := Nat.div_add_mod N n
  have l := Nat.mod_lt N hn
  unfold stQ
  have h1 : y ≤ N / n := (Nat.le_div_iff_mul_le hn).2 (by omega)
  by_cases c : y = N / n
  · have : (N % n != 0) = true := by
      simp
      intro z
      rw [z, ← c, Nat.mul_comm] at e
      omega
    rw [this]; simp; omega
  · omega
theorem sq_gt {N n y : Nat} (hn : 0 < n) (h : N < y * n) : stQ N n < 2 * y := by
  unfold stQ
  have h1 : N / n < y := (Nat.div_lt_iff_lt_mul hn).2 h
  have : (N % n != 0).toNat ≤ 1 := by cases (N % n != 0) <;> decide
  omega
theorem q_low {N n d r : Nat} (hn : 0 < n) (hW : 18014398509481984 ≤ stQ N n) (h : (mv r + mv (r + 1)) * n < N * 2 ^ (d + 2)) : r + 1 ≤ rung 52 0 (stQ N n * 2 ^ d) := by
  rcases Nat.lt_or_ge (stQ N n * 2 ^ d) (mv (r + 1)) with c | c
  · have hr := great_rung hW c
    obtain ⟨y, hy⟩ := mid_mult (r := r) (d := d) (by omega)
    rw [hy, Nat.mul_right_comm] at h
    have h1 : y * n < N := Nat.lt_of_mul_lt_mul_right h
    have h2 := sq_lt hn h1
    have h3 : mv r + mv (r + 1) < 2 * (stQ N n * 2 ^ d) := by
      rw [hy, show d + 2 = d + 1 + 1 by omega, Nat.pow_succ, Nat.pow_succ]
      have := (Nat.mul_lt_mul_right (Nat.two_pow_pos d)).2 h2
      generalize 2 ^ d = b at *
      generalize stQ N n = W at *
      have e1 : y * (b * 2 * 2) = 2 * (2 * y * b) := by rw [show b * 2 * 2 = b * 4 by omega, show 2 * (2 * y * b) = y * b * 4 by rw [Nat.mul_assoc 2 y b]; omega, Nat.mul_assoc]
      omega
    have hlow : mv r ≤ stQ N n * 2 ^ d := by
      have := mv_le (r := r) (r' := r + 1)
      omega
    have := rung_between 52 0 r (stQ N n * 2 ^ d) (by omega) (by rw [Nat.pow_zero, Nat.mul_one]; exact hlow) (by rw [Nat.pow_zero, Nat.mul_one]; exact c)
    rw [if_pos (.inl (by rw [Nat.pow_zero, Nat.mul_one]; exact h3))] at this
    omega
  · exact rung_ge (by omega) (by rw [Nat.pow_zero, Nat.mul_one]; exact c)
theorem q_up {N n d r : Nat} (hn : 0 < n) (hW : 18014398509481984 ≤ stQ N n) (h : N * 2 ^ (d + 2) < (mv r + mv (r + 1)) * n) : rung 52 0 (stQ N n * 2 ^ d) ≤ r := by
  rcases Nat.lt_or_ge (stQ N n * 2 ^ d) (mv (r + 1)) with c | c
  · rcases Nat.lt_or_ge (mv r) (stQ N n * 2 ^ d) with c2 | c2
    · have hr := great_rung hW c
      obtain ⟨y, hy⟩ := mid_mult (r := r) (d := d) (by omega)
      rw [hy, Nat.mul_right_comm] at h
      have h1 : N < y * n := Nat.lt_of_mul_lt_mul_right h
      have h2 := sq_gt hn h1
      have h3 : 2 * (stQ N n * 2 ^ d) < mv r + mv (r + 1) := by
        rw [hy, show d + 2 = d + 1 + 1 by omega, Nat.pow_succ, Nat.pow_succ]
        have := (Nat.mul_lt_mul_right (Nat.two_pow_pos d)).2 h2
        generalize 2 ^ d = b at *
        generalize stQ N n = W at *
        have e1 : y * (b * 2 * 2) = 2 * (2 * y * b) := by rw [show b * 2 * 2 = b * 4 by omega, show 2 * (2 * y * b) = y * b * 4 by rw [Nat.mul_assoc 2 y b]; omega, Nat.mul_assoc]
        omega
      have := rung_between 52 0 r (stQ N n * 2 ^ d) (by omega) (by rw [Nat.pow_zero, Nat.mul_one]; exact Nat.le_of_lt c2) (by rw [Nat.pow_zero, Nat.mul_one]; exact c)
      rw [if_neg (by rw [Nat.pow_zero, Nat.mul_one]; show ¬ (mv r + mv (r + 1) < _ ∨ (mv r + mv (r + 1) = _ ∧ _)); omega)] at this
      omega
    · exact rung_le (by omega) (by rw [Nat.pow_zero, Nat.mul_one]; exact c2)
  · exfalso
    have hr : 2 * mv (r + 1) ≤ 2 * (stQ N n * 2 ^ d) := by omega
    have hn' := (mv_le (r := r) (r' := r + 1)).2 (by omega)
    have c3 : mv r + mv (r + 1) ≤ 2 * mv (r + 1) := by omega
    by_cases g : (d + 3) * 4503599627370496 ≤ r
    · obtain ⟨y, hy⟩ := mid_mult (r := r) (d := d) g
      rw [hy, Nat.mul_right_comm] at h
      have h1 : N < y * n := Nat.lt_of_mul_lt_mul_right h
      have h2 := sq_gt hn h1
      have := (Nat.mul_lt_mul_right (Nat.two_pow_pos d)).2 h2
      rw [hy, show d + 2 = d + 1 + 1 by omega, Nat.pow_succ, Nat.pow_succ] at c3
      generalize 2 ^ d = b at *
      generalize stQ N n = W at *
      have e1 : y * (b * 2 * 2) = 2 * (2 * y * b) := by rw [show b * 2 * 2 = b * 4 by omega, show 2 * (2 * y * b) = y * b * 4 by rw [Nat.mul_assoc 2 y b]; omega, Nat.mul_assoc]
      omega
    · have e2 := mv_two_pow (d + 2) ((d + 3) * 4503599627370496) (by
        have e : (2 : Nat) ^ 52 = 4503599627370496 := by decide
        rw [e])
      have hle : mv (r + 1) ≤ mv ((d + 3) * 4503599627370496) := mv_le.2 (by omega)
      have h5 : (mv r + mv (r + 1)) * n ≤ 2 * 2 ^ (52 + (d + 2)) * n := Nat.mul_le_mul_right n (by omega)
      have h6 : 2 * 2 ^ (52 + (d + 2)) * n = 9007199254740992 * n * 2 ^ (d + 2) := by
        rw [show 2 * 2 ^ (52 + (d + 2)) = 9007199254740992 * 2 ^ (d + 2) by rw [Nat.pow_add 2 52 (d + 2), ← Nat.mul_assoc], Nat.mul_right_comm]
      have h7 : N < 9007199254740992 * n := by
        refine Nat.lt_of_mul_lt_mul_right (a := 2 ^ (d + 2)) ?_
        omega
      have := sq_gt hn h7
      omega
theorem canon_nn' {q : Nat} (q1 : 4503599627370496 ≤ q) (q2 : q < 9218868437227405312) : canonB q = q := by
  have mq : mg q = q := mg_of_lt (by omega)
  unfold canonB
  rw [mq, if_neg (by unfold isN; rw [mq]; simp; omega), if_neg (by omega)]
set_option maxRecDepth 100000 in
/-- what a quotient of two numbers above nothing is -/
theorem dv_core {x l : Nat} (x1 : 4503599627370496 ≤ x) (x2 : x < 9218868437227405312) (l1 : 4503599627370496 ≤ l) (l2 : l < 9218868437227405312)
    (h1 : l / 4503599627370496 ≤ x / 4503599627370496 + 1010) (h2 : x / 4503599627370496 ≤ l / 4503599627370496 + 1006) :
    ∃ N n d g, 0 < g ∧ 0 < n ∧ 18014398509481984 ≤ stQ N n ∧ dvB x l = rung 52 0 (stQ N n * 2 ^ d) ∧ n * g = mv l ∧ N * 2 ^ (d + 2) * g = 2 * (mv x * 2 ^ K) ∧ 4503599627370496 ≤ dvB x l ∧ dvB x l ≤ 9146810843189477376 := by
  obtain ⟨W, w1, w2, w3, e1⟩ := div_pos x1 x2 l1 l2
  have hq : W = stQ ((4503599627370496 + x % 4503599627370496) * 2 ^ 54) (4503599627370496 + l % 4503599627370496) := by rw [w3]; unfold stQ; rw [Nat.shiftLeft_eq]
  have px := mv_parts x1
  have pl := mv_parts l1
  have hlp := d_lp
  have ha : 1 ≤ x / 4503599627370496 ∧ 1 ≤ l / 4503599627370496 := by omega
  clear w3
  generalize x / 4503599627370496 = a at *
  generalize l / 4503599627370496 = c at *
  obtain ⟨d, hd⟩ : ∃ d : Nat, (((a - 1 : Nat) : Int) - ((c - 1 : Nat) : Int) - 55) = double.leastPlace + (d : Int) := ⟨((((a - 1 : Nat) : Int) - ((c - 1 : Nat) : Int) - 55) - double.leastPlace).toNat, by omega⟩
  have hdle : d ≤ 2025 := by omega
  have hdk : d + 2 + 54 + (c - 1) = (a - 1) + 1 + K := by unfold K; omega
  rw [nearest_up double false W d _ hd, d_word, d_inf] at e1
  have h0 : W * 2 ^ d ≠ 0 := Nat.mul_ne_zero (by omega) (by have := Nat.two_pow_pos d; omega)
  have hlog : 52 + 0 ≤ (W * 2 ^ d).log2 := by
    refine (Nat.le_log2 h0).2 ?_
    have e : (2 : Nat) ^ (52 + 0) = 4503599627370496 := by decide
    rw [e]
    have := Nat.two_pow_pos d
    exact Nat.le_trans (by omega) (Nat.le_mul_of_pos_right W this)
  have hb := rung_big hlog h0
  have hle := rung_E17 (le_E17 w2 hdle)
  have hfb : double.fractionBits = 52 := rfl
  rw [hfb] at e1
  refine ⟨(4503599627370496 + x % 4503599627370496) * 2 ^ 54, 4503599627370496 + l % 4503599627370496, d, 2 ^ (c - 1), Nat.two_pow_pos _, by omega, by omega, ?_, pl.symm, ?_, ?_⟩
  · rw [← hq]
    generalize rung 52 0 (W * 2 ^ d) = r at *
    simp only [Bool.false_eq_true, if_false] at e1
    rw [Nat.min_eq_left (by omega)] at e1
    rw [dvB_some e1]
    exact canon_nn' hb (by omega)
  · rw [px]
    generalize 4503599627370496 + x % 4503599627370496 = m
    rw [show m * 2 ^ 54 * 2 ^ (d + 2) * 2 ^ (c - 1) = m * 2 ^ (d + 2 + 54 + (c - 1)) by rw [Nat.mul_assoc, Nat.mul_assoc, ← Nat.pow_add, ← Nat.pow_add]; congr 2; omega, hdk, Nat.pow_add, Nat.pow_add, Nat.pow_one]
    generalize 2 ^ (a - 1) = u
    generalize 2 ^ K = v
    rw [show u * 2 * v = 2 * (u * v) by rw [Nat.mul_comm u 2, Nat.mul_assoc], ← Nat.mul_assoc m 2, Nat.mul_comm m 2, Nat.mul_assoc, Nat.mul_assoc]
  · generalize rung 52 0 (W * 2 ^ d) = r at *
    simp only [Bool.false_eq_true, if_false] at e1
    rw [Nat.min_eq_left (by omega)] at e1
    rw [dvB_some e1, canon_nn' hb (by omega)]
    exact ⟨hb, hle⟩
end Go.Proofs.YtjgbaenihkplpaaDoor

/-
  Quotients rise and fall, and how far they are off, by plain numbers (no program).
-/
namespace Go.Proofs.YtjgbaenihkplpaaDoor
open Tf Ieee
/-- numbers whose quotient is far from both ends -/
def Qn (x l : Nat) : Prop := (4503599627370496 ≤ x ∧ x < 9218868437227405312) ∧ (4503599627370496 ≤ l ∧ l < 9218868437227405312) ∧ l / 4503599627370496 ≤ x / 4503599627370496 + 1010 ∧ x / 4503599627370496 ≤ l / 4503599627370496 + 1006
theorem dq_low {x l r : Nat} (q : Qn x l) (h : (mv r + mv (r + 1)) * mv l < 2 * (mv x * 2 ^ K)) : r + 1 ≤ dvB x l := by
  obtain ⟨⟨x1, x2⟩, ⟨l1, l2⟩, h1, h2⟩ := q
  obtain ⟨N, n, d, g, hg, hn, hW, e, e1, e2, -⟩ := dv_core x1 x2 l1 l2 h1 h2
  rw [e]
  rw [← e1, ← e2, ← Nat.mul_assoc] at h
  exact q_low hn hW (Nat.lt_of_mul_lt_mul_right h)
theorem dq_up {x l r : Nat} (q : Qn x l) (h : 2 * (mv x * 2 ^ K) < (mv r + mv (r + 1)) * mv l) : dvB x l ≤ r := by
  obtain ⟨⟨x1, x2⟩, ⟨l1, l2⟩, h1, h2⟩ := q
  obtain ⟨N, n, d, g, hg, hn, hW, e, e1, e2, -⟩ := dv_core x1 x2 l1 l2 h1 h2
  rw [e]
  rw [← e1, ← e2, ← Nat.mul_assoc] at h
  exact q_up hn hW (Nat.lt_of_mul_lt_mul_right h)
theorem dq_in {x l : Nat} (q : Qn x l) : 4503599627370496 ≤ dvB x l ∧ dvB x l ≤ 9146810843189477376 := by
  obtain ⟨⟨x1, x2⟩, ⟨l1, l2⟩, h1, h2⟩ := q
  obtain ⟨N, n, d, g, hg, hn, hW, e, e1, e2, e3⟩ := dv_core x1 x2 l1 l2 h1 h2
  exact e3
/-- of a greater number it isn't less -/
theorem dv_mono {x x' l : Nat} (q : Qn x l) (q' : Qn x' l) (h : x ≤ x') : dvB x l ≤ dvB x' l := by
  rcases Nat.lt_or_ge (dvB x' l) (dvB x l) with c | c
  · exfalso
    have a1 : (mv (dvB x' l) + mv (dvB x' l + 1)) * mv l ≤ 2 * (mv x * 2 ^ K) := by
      rcases Nat.lt_or_ge (2 * (mv x * 2 ^ K)) ((mv (dvB x' l) + mv (dvB x' l + 1)) * mv l) with k | k
      · have := dq_up q k; omega
      · exact k
    have a2 : 2 * (mv x' * 2 ^ K) ≤ (mv (dvB x' l) + mv (dvB x' l + 1)) * mv l := by
      rcases Nat.lt_or_ge ((mv (dvB x' l) + mv (dvB x' l + 1)) * mv l) (2 * (mv x' * 2 ^ K)) with k | k
      · have := dq_low q' k; omega
      · exact k
    have a3 : mv x' * 2 ^ K ≤ mv x * 2 ^ K := by omega
    have a4 := mv_le.1 (Nat.le_of_mul_le_mul_right a3 (Nat.two_pow_pos K))
    have e : x = x' := by omega
    subst e
    exact Nat.lt_irrefl _ c
  · exact c
/-- over a greater number it isn't more -/
theorem dv_anti {x l l' : Nat} (q : Qn x l) (q' : Qn x l') (h : l ≤ l') : dvB x l' ≤ dvB x l := by
  rcases Nat.lt_or_ge (dvB x l) (dvB x l') with c | c
  · exfalso
    have a1 : (mv (dvB x l) + mv (dvB x l + 1)) * mv l' ≤ 2 * (mv x * 2 ^ K) := by
      rcases Nat.lt_or_ge (2 * (mv x * 2 ^ K)) ((mv (dvB x l) + mv (dvB x l + 1)) * mv l') with k | k
      · have := dq_up q' k; omega
      · exact k
    have a2 : 2 * (mv x * 2 ^ K) ≤ (mv (dvB x l) + mv (dvB x l + 1)) * mv l := by
      rcases Nat.lt_or_ge ((mv (dvB x l) + mv (dvB x l + 1)) * mv l) (2 * (mv x * 2 ^ K)) with k | k
      · have := dq_low q k; omega
      · exact k
    have hp : 0 < mv (dvB x l) + mv (dvB x l + 1) := by
      have := mv_next (dvB x l)
      have := Nat.two_pow_pos (dvB x l / 4503599627370496 - 1)
      omega
    have a4 := mv_le.1 (Nat.le_of_mul_le_mul_left (Nat.le_trans a1 a2) hp)
    have e : l = l' := by omega
    subst e
    exact Nat.lt_irrefl _ c
  · exact c
/-- how far a quotient is off -/
theorem dv_err {x l : Nat} (q : Qn x l) : 9007199254740992 * (mv x * 2 ^ K) ≤ 9007199254740993 * (mv (dvB x l) * mv l) ∧ 9007199254740991 * (mv (dvB x l) * mv l) ≤ 9007199254740992 * (mv x * 2 ^ K) := by
  have hin := (dq_in q).1
  have b1 : 2 * (mv x * 2 ^ K) ≤ (mv (dvB x l) + mv (dvB x l + 1)) * mv l := by
    rcases Nat.lt_or_ge ((mv (dvB x l) + mv (dvB x l + 1)) * mv l) (2 * (mv x * 2 ^ K)) with k | k
    · have := dq_low q k; omega
    · exact k
  have b2 : (mv (dvB x l - 1) + mv (dvB x l)) * mv l ≤ 2 * (mv x * 2 ^ K) := by
    rcases Nat.lt_or_ge (2 * (mv x * 2 ^ K)) ((mv (dvB x l - 1) + mv (dvB x l)) * mv l) with k | k
    · have := dq_up (r := dvB x l - 1) q (by rw [Nat.sub_add_cancel (by omega)]; exact k); omega
    · exact k
  have n1 := mv_next (dvB x l)
  have n2 := mv_next (dvB x l - 1)
  rw [Nat.sub_add_cancel (by omega)] at n2
  have p := mv_parts hin
  have g1 : 2 ^ ((dvB x l - 1) / 4503599627370496 - 1) ≤ 2 ^ (dvB x l / 4503599627370496 - 1) := Nat.pow_le_pow_right (by omega) (by omega)
  have g2 : 4503599627370496 * 2 ^ (dvB x l / 4503599627370496 - 1) ≤ mv (dvB x l) := by
    rw [p]
    exact Nat.mul_le_mul_right _ (by omega)
  generalize dvB x l = r at *
  generalize 2 ^ (r / 4503599627370496 - 1) = g at *
  generalize 2 ^ ((r - 1) / 4503599627370496 - 1) = g' at *
  generalize mv (r - 1) = u at *
  generalize mv (r + 1) = v at *
  generalize mv r = t at *
  generalize mv l = y at *
  generalize mv x * 2 ^ K = z at *
  have m1 : 4503599627370496 * ((t + v) * y) ≤ 9007199254740993 * (t * y) := by
    rw [← Nat.mul_assoc, ← Nat.mul_assoc]
    exact Nat.mul_le_mul_right _ (by omega)
  have m2 : 9007199254740991 * (t * y) ≤ 4503599627370496 * ((u + t) * y) := by
    rw [← Nat.mul_assoc, ← Nat.mul_assoc]
    exact Nat.mul_le_mul_right _ (by omega)
  omega
end Go.Proofs.YtjgbaenihkplpaaDoor
