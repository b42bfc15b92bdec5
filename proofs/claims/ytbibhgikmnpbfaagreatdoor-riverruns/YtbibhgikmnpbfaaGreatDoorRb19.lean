/-
  Some of the texts of this proof, one behind the other.
-/
import Derived.Test.YtbibhgikmnpbfaaGreatDoorRb18
namespace Go.Proofs.YtbibhgikmnpbfaaGreatDoor
open Go.RowKit Tf Cu Go.Deep
attribute [local go_sem] run_bits run_from raw_feq raw_fne raw_flt raw_fgt run_neg run_store_float
namespace Rv
/-- beds, waters and tracers of the test of life -/
def lvB (i : Nat) : Nat := if i = 0 then 4617315517961601024 else if i = 1 then 4616189618054758400 else if i = 2 then 4613937818241073152 else if i = 3 then 4611686018427387904 else if i = 4 then 4607182418800017408 else 0
def lvW (i : Nat) : Int := if i = 0 then 100 else 0
def lvT (i : Nat) : Int := if i = 0 then 10 else 0
def lvO (i : Nat) : Nat := if i = 0 then 4607182418800017408 else if i = 1 then 4613937818241073152 else if i = 2 then 4611686018427387904 else 4613937818241073152
theorem lv_fw : ∀ j : Nat, j < 6 → fw (5 - (j : Int)) = lvB j := by decide +kernel
theorem lvB_in (i : Nat) : lvB i < 18446744073709551616 := by
  unfold lvB
  repeat (first | split | omega)
theorem lv_ord : ordL (kB lvB) 6 = [0, 1, 2, 3, 4, 5] := by
  refine (ord_one ⟨?_, ?_⟩).symm
  · show List.Pairwise (fun a b => kB lvB b < kB lvB a ∨ (kB lvB a = kB lvB b ∧ a < b)) [0, 1, 2, 3, 4, 5]
    decide +kernel
  · exact List.Perm.refl _
theorem lv_ord2 : ordL (kB lvO) 4 = [1, 3, 2, 0] := by
  refine (ord_one ⟨?_, ?_⟩).symm
  · show List.Pairwise (fun a b => kB lvO b < kB lvO a ∨ (kB lvO a = kB lvO b ∧ a < b)) [1, 3, 2, 0]
    decide +kernel
  · decide
theorem lv_d0 : dnR 1 lvB 0 = 5 := by decide +kernel
theorem lv_d5 : dnR 1 lvB 5 = -1 := by decide +kernel
theorem lv_run : (runR 1 lvB lvW lvT).1 0 = 75 ∧ (runR 1 lvB lvW lvT).1 5 = 25 ∧ (runR 1 lvB lvW lvT).2 0 = 8 ∧ (runR 1 lvB lvW lvT).2 5 = 2 := by
  unfold runR
  rw [show 6 * 1 * 1 = 6 from rfl, lv_ord]
  decide +kernel
theorem lv_good : good19 1 6 6 6 12 lvW lvT := by
  refine ⟨⟨rfl, rfl, rfl, rfl⟩, ⟨fun c _ => ?_, by decide⟩, ⟨fun c _ => ?_, by decide⟩⟩
  · unfold lvW; split <;> omega
  · unfold lvT; split <;> omega
theorem row_ne {w : World} {a b m n : Nat} {s t : TypeId} {f g : Nat → Value} (h1 : w.rowIs a s m f) (h2 : w.rowIs b t n g) (hst : s ≠ t) : a ≠ b := fun e => by
  subst e
  obtain ⟨c, k1, -⟩ := h1
  obtain ⟨d, k2, -⟩ := h2
  rw [k1] at k2
  injection k2 with k3
  injection k3 with _ k4
  exact hst k4
theorem four_in19 (v : World) : Sh.IsI (v.alloc (.cells #[.int .i64 1, .int .i64 3, .int .i64 2, .int .i64 0] 3)) (some ⟨v.heap.size, 0, none⟩) 4 (fun j => ((([1, 3, 2, 0] : List Nat).getD j 0 : Nat) : Int)) := by
  have h := heap_alloc_new v (.cells #[.int .i64 1, .int .i64 3, .int .i64 2, .int .i64 0] 3)
  intro k hk
  match k, hk with
  | 0, _ => exact ⟨by decide, _, 0, rfl, lt_of_block h, cell_of_row _ _ 0 _ _ _ h⟩
  | 1, _ => exact ⟨by decide, _, 0, rfl, lt_of_block h, cell_of_row _ _ 1 _ _ _ h⟩
  | 2, _ => exact ⟨by decide, _, 0, rfl, lt_of_block h, cell_of_row _ _ 2 _ _ _ h⟩
  | 3, _ => exact ⟨by decide, _, 0, rfl, lt_of_block h, cell_of_row _ _ 3 _ _ _ h⟩
theorem four_fl19 (v : World) : IsFl (v.alloc (.cells #[.float .f64 4607182418800017408, .float .f64 4613937818241073152, .float .f64 4611686018427387904, .float .f64 4613937818241073152] 47)) (some ⟨v.heap.size, 0, none⟩) 4 lvO := by
  have h := heap_alloc_new v (.cells #[.float .f64 4607182418800017408, .float .f64 4613937818241073152, .float .f64 4611686018427387904, .float .f64 4613937818241073152] 47)
  intro k hk
  match k, hk with
  | 0, _ => exact ⟨by decide, _, 0, rfl, lt_of_block h, cell_of_row _ _ 0 _ _ _ h⟩
  | 1, _ => exact ⟨by decide, _, 0, rfl, lt_of_block h, cell_of_row _ _ 1 _ _ _ h⟩
  | 2, _ => exact ⟨by decide, _, 0, rfl, lt_of_block h, cell_of_row _ _ 2 _ _ _ h⟩
  | 3, _ => exact ⟨by decide, _, 0, rfl, lt_of_block h, cell_of_row _ _ 3 _ _ _ h⟩
theorem own_w19 {B n : Nat} {v : Value} {f : Nat → Int} {w : World} (h : Sh.Own B v ((List.range n).map f) w) (hf : ∀ c, c < n → Sh.W64 (f c)) : ∃ a0 cap, v = .slice a0 n cap ∧ Sh.IsI w a0 n f := by
  obtain ⟨a0, cap, e, i⟩ := Sh.Own.in h (fun x hx => by
    obtain ⟨j, hj, rfl⟩ := List.mem_map.1 hx
    exact hf j (List.mem_range.1 hj))
  rw [List.length_map, List.length_range] at e i
  exact ⟨a0, cap, e, i.congr (fun k hk => by simp [List.getD, hk])⟩
set_option maxRecDepth 100000 in
set_option maxHeartbeats 16000000 in
theorem lives19_at (DC : DownC) (OC : OrderC) (RC : RunC) (w : World) (hF : Fr w) : Calls Tryz.prog 5 #[] w fun e w' => e = .returned (.bool true) ∧ Below w.heap.size w w' := by
  have NW := hid (new_at 1 w (by omega) hF)
  have HD := hid DC
  have HO := hid OC
  have HR := hid RC
  clear hF DC OC RC
  go_enter Tryz.func5, Tryz.ntmps5
  go_wp2_with fail
  refine NW.out.mono ?_
  rintro e v1 ⟨gb, rfl, a1, -, g1⟩
  have AW1 : Hid (Ab w v1) := a1
  have G1 : Hid (GridOf 1 gb v1) := g1
  clear a1 g1 NW
  have LK := hid (lake19_at v1 G1.out)
  go_wp2_with fail
  refine LK.out.mono ?_
  rintro e v2 ⟨b1, b2, b3, b4, rfl, k2, r1, r2, r3, r4, nb⟩
  have AV : Hid (Ab v1 (v2.alloc (.cells #[.slice (some ⟨b1, 0, none⟩) 6 6, .slice (some ⟨b2, 0, none⟩) 6 6, .slice (some ⟨b3, 0, none⟩) 6 6, .slice (some ⟨b4, 0, none⟩) 12 12, .int .i64 0, .int .i64 0] 25))) := Ab.alloc (show Ab v1 v2 from k2) _
  have SR : Hid ((v2.alloc (.cells #[.slice (some ⟨b1, 0, none⟩) 6 6, .slice (some ⟨b2, 0, none⟩) 6 6, .slice (some ⟨b3, 0, none⟩) 6 6, .slice (some ⟨b4, 0, none⟩) 12 12, .int .i64 0, .int .i64 0] 25)).heap[v2.heap.size]? = some (.cells #[.slice (some ⟨b1, 0, none⟩) 6 6, .slice (some ⟨b2, 0, none⟩) 6 6, .slice (some ⟨b3, 0, none⟩) 6 6, .slice (some ⟨b4, 0, none⟩) 12 12, .int .i64 0, .int .i64 0] 25)) := heap_alloc_new _ _
  have R1 := hid (r1.alloc (.cells #[.slice (some ⟨b1, 0, none⟩) 6 6, .slice (some ⟨b2, 0, none⟩) 6 6, .slice (some ⟨b3, 0, none⟩) 6 6, .slice (some ⟨b4, 0, none⟩) 12 12, .int .i64 0, .int .i64 0] 25))
  have R2 := hid (r2.alloc (.cells #[.slice (some ⟨b1, 0, none⟩) 6 6, .slice (some ⟨b2, 0, none⟩) 6 6, .slice (some ⟨b3, 0, none⟩) 6 6, .slice (some ⟨b4, 0, none⟩) 12 12, .int .i64 0, .int .i64 0] 25))
  have R3 := hid (r3.alloc (.cells #[.slice (some ⟨b1, 0, none⟩) 6 6, .slice (some ⟨b2, 0, none⟩) 6 6, .slice (some ⟨b3, 0, none⟩) 6 6, .slice (some ⟨b4, 0, none⟩) 12 12, .int .i64 0, .int .i64 0] 25))
  have R4 := hid (r4.alloc (.cells #[.slice (some ⟨b1, 0, none⟩) 6 6, .slice (some ⟨b2, 0, none⟩) 6 6, .slice (some ⟨b3, 0, none⟩) 6 6, .slice (some ⟨b4, 0, none⟩) 12 12, .int .i64 0, .int .i64 0] 25))
  have NB : Hid (((v1.heap.size ≤ b1 ∧ v1.heap.size ≤ b2 ∧ v1.heap.size ≤ b3 ∧ v1.heap.size ≤ b4) ∧ b1 ≠ b2 ∧ b1 ≠ b4 ∧ b2 ≠ b4 ∧ b3 ≠ b4 ∧ b3 ≠ b2) ∧ v2.heap.size ≠ b1 ∧ v2.heap.size ≠ b2 ∧ v2.heap.size ≠ b3 ∧ b1 ≠ b3) := ⟨nb, by have := r1.lt; omega, by have := r2.lt; omega, by have := r3.lt; omega, row_ne r1 r3 (by decide)⟩
  clear k2 r1 r2 r3 r4 nb LK
  go_upto_region 5 with fail
  obtain ⟨gs, hgs⟩ : ∃ x, v2.heap.size = x := ⟨_, rfl⟩
  generalize hV : v2.alloc (.cells #[.slice (some ⟨b1, 0, none⟩) 6 6, .slice (some ⟨b2, 0, none⟩) 6 6, .slice (some ⟨b3, 0, none⟩) 6 6, .slice (some ⟨b4, 0, none⟩) 12 12, .int .i64 0, .int .i64 0] 25) = V at *
  rw [hgs] at SR NB
  rw [hgs]
  clear hV hgs
  have c0 := cell_of_row _ _ 0 _ _ _ SR.out
  go_wp2
  clear c0
  go_loopw [4] (fun iv wr => ∃ c : Nat, c ≤ 6 ∧ iv = .int .i64 (c : Nat) ∧ Ab v1 wr ∧ wr.heap[gs]? = some (.cells #[.slice (some ⟨b1, 0, none⟩) 6 6, .slice (some ⟨b2, 0, none⟩) 6 6, .slice (some ⟨b3, 0, none⟩) 6 6, .slice (some ⟨b4, 0, none⟩) 12 12, .int .i64 0, .int .i64 0] 25) ∧ wr.rowIs b1 47 6 (fun j => .float .f64 (if j < c then lvB j else 0)) ∧ wr.rowIs b2 2 6 (fun j => .int .i64 (if j < c then 0 else lkW j)) ∧ wr.rowIs b3 2 6 (fun _ => .int .i64 0) ∧ wr.rowIs b4 47 12 (fun _ => .float .f64 0)) (fun iv _ => 6 - (intOf iv).toNat)
  case atStart => exact ⟨0, by omega, rfl, AV.out, SR.out, R1.out.congr (fun i _ => by simp), R2.out.congr (fun i _ => by simp), R3.out, R4.out⟩
  case round =>
    obtain ⟨c, hc, rfl, ar, s0, s1, s2, s3, s4⟩ := hrel
    have AR := hid ar
    have S0 := hid s0
    have S1 := hid s1
    have S2 := hid s2
    have S3 := hid s3
    have S4 := hid s4
    clear ar s0 s1 s2 s3 s4 AV SR R1 R2 R3 R4
    by_cases hcn : c < 6
    · have HC := hid hcn
      have hcI : (c : Int) < 6 := by omega
      have c0 := cell_of_row _ _ 0 _ _ _ S0.out
      have z1 := S1.out.cell hcn
      have z2 := S1.out.frozen c
      obtain ⟨y1, hy1⟩ : ∃ y, Value.float .f64 (if c < c then lvB c else 0) = y := ⟨_, rfl⟩
      rw [hy1] at z1
      obtain ⟨x, hx⟩ : ∃ x, lvB c = x := ⟨_, rfl⟩
      have CV := fun (w : World) => run_convert_int_float (P := Tryz.prog) w 3 47 .i64 .f64 (5 - (c : Int)) (by kernel_rfl) (by kernel_rfl)
      have ef : floatOfInt .f64 (5 - (c : Int)) = x := by
        rw [← hx, ← lv_fw c hcn]
        exact ofInt_d _
      rw [ef] at CV
      have N1 : Hid (wr.setCell ⟨b1, c, none⟩ (.float .f64 x) |>.rowIs b2 2 6 (fun j => .int .i64 (if j < c then 0 else lkW j))) := S2.out.setOther (a := ⟨b1, c, none⟩) (Ne.symm NB.out.1.2.1) _
      have u1 := N1.out.cell hcn
      have u2 := N1.out.frozen c
      obtain ⟨y2, hy2⟩ : ∃ y, Value.int .i64 (if c < c then 0 else lkW c) = y := ⟨_, rfl⟩
      rw [hy2] at u1
      have N0 : Hid ((wr.setCell ⟨b1, c, none⟩ (.float .f64 x)).heap[gs]? = some (.cells #[.slice (some ⟨b1, 0, none⟩) 6 6, .slice (some ⟨b2, 0, none⟩) 6 6, .slice (some ⟨b3, 0, none⟩) 6 6, .slice (some ⟨b4, 0, none⟩) 12 12, .int .i64 0, .int .i64 0] 25)) := (Below.heap_setCell _ _ _ _ NB.out.2.1).trans S0.out
      have c1 := cell_of_row _ _ 1 _ _ _ N0.out
      have XE := hid hx
      clear hy1 hy2 hx ef hcn hc
      go_wp2
      refine ⟨⟨c + 1, by have := HC.out; omega, by simp, (AR.out.set NB.out.1.1.1 _).set NB.out.1.1.2.1 _, (Below.heap_setCell _ _ _ _ NB.out.2.2.1).trans N0.out, ((S1.out.set c _).setOther NB.out.1.2.1 _).congr (fun i _ => ?_), (N1.out.set c _).congr (fun i _ => ?_), (S3.out.setOther (a := ⟨b1, c, none⟩) (Ne.symm NB.out.2.2.2.2) _).setOther NB.out.1.2.2.2.2.2 _, (S4.out.setOther (a := ⟨b1, c, none⟩) (Ne.symm NB.out.1.2.2.1) _).setOther (Ne.symm NB.out.1.2.2.2.1) _⟩, by have := HC.out; simp [intOf]; omega⟩
      · by_cases e : i = c
        · subst e; simp [XE.out]
        · have q : (i < c + 1) ↔ i < c := by omega
          simp [e, q]
      · by_cases e : i = c
        · subst e; simp
        · have q : (i < c + 1) ↔ i < c := by omega
          simp [e, q]
    · obtain rfl : c = 6 := by omega
      have c1 := cell_of_row _ _ 1 _ _ _ S0.out
      have z1 := S2.out.cell (show 0 < 6 by omega)
      have z2 := S2.out.frozen 0
      obtain ⟨y1, hy1⟩ : ∃ y, Value.int .i64 (if 0 < 6 then 0 else lkW 0) = y := ⟨_, rfl⟩
      rw [hy1] at z1
      have M0 : Hid ((wr.setCell ⟨b2, 0, none⟩ (.int .i64 100)).heap[gs]? = some (.cells #[.slice (some ⟨b1, 0, none⟩) 6 6, .slice (some ⟨b2, 0, none⟩) 6 6, .slice (some ⟨b3, 0, none⟩) 6 6, .slice (some ⟨b4, 0, none⟩) 12 12, .int .i64 0, .int .i64 0] 25)) := (Below.heap_setCell _ _ _ _ NB.out.2.2.1).trans S0.out
      have M3 : Hid ((wr.setCell ⟨b2, 0, none⟩ (.int .i64 100)).rowIs b3 2 6 (fun _ => .int .i64 0)) := S3.out.setOther (a := ⟨b2, 0, none⟩) NB.out.1.2.2.2.2.2 _
      have c2 := cell_of_row _ _ 2 _ _ _ M0.out
      have u1 := M3.out.cell (show 0 < 6 by omega)
      have u2 := M3.out.frozen 0
      have T0 : Hid (((wr.setCell ⟨b2, 0, none⟩ (.int .i64 100)).setCell ⟨b3, 0, none⟩ (.int .i64 10)).heap[gs]? = some (.cells #[.slice (some ⟨b1, 0, none⟩) 6 6, .slice (some ⟨b2, 0, none⟩) 6 6, .slice (some ⟨b3, 0, none⟩) 6 6, .slice (some ⟨b4, 0, none⟩) 12 12, .int .i64 0, .int .i64 0] 25)) := (Below.heap_setCell _ _ _ _ NB.out.2.2.2.1).trans M0.out
      have T1 : Hid (((wr.setCell ⟨b2, 0, none⟩ (.int .i64 100)).setCell ⟨b3, 0, none⟩ (.int .i64 10)).rowIs b1 47 6 (fun j => .float .f64 (lvB j))) := ((S1.out.setOther (a := ⟨b2, 0, none⟩) NB.out.1.2.1 _).setOther NB.out.2.2.2.2 _).congr (fun i hi => by simp [hi])
      have T2 : Hid (((wr.setCell ⟨b2, 0, none⟩ (.int .i64 100)).setCell ⟨b3, 0, none⟩ (.int .i64 10)).rowIs b2 2 6 (fun j => .int .i64 (lvW j))) := ((S2.out.set 0 _).setOther (Ne.symm NB.out.1.2.2.2.2.2) _).congr (fun i hi => by unfold lvW; by_cases e : i = 0 <;> simp [e, hi])
      have T3 : Hid (((wr.setCell ⟨b2, 0, none⟩ (.int .i64 100)).setCell ⟨b3, 0, none⟩ (.int .i64 10)).rowIs b3 2 6 (fun j => .int .i64 (lvT j))) := (M3.out.set 0 _).congr (fun i hi => by unfold lvT; by_cases e : i = 0 <;> simp [e])
      have T4 : Hid (((wr.setCell ⟨b2, 0, none⟩ (.int .i64 100)).setCell ⟨b3, 0, none⟩ (.int .i64 10)).rowIs b4 47 12 (fun _ => .float .f64 0)) := (S4.out.setOther (a := ⟨b2, 0, none⟩) (Ne.symm NB.out.1.2.2.2.1) _).setOther (Ne.symm NB.out.1.2.2.2.2.1) _
      have AT : Hid (Ab v1 ((wr.setCell ⟨b2, 0, none⟩ (.int .i64 100)).setCell ⟨b3, 0, none⟩ (.int .i64 10))) := (AR.out.set NB.out.1.1.2.1 _).set NB.out.1.1.2.2.1 _
      clear hy1
      go_upto_region 14 with fail
      generalize hS : World.setCell (World.setCell wr _ _) _ _ = X at *
      clear hS c1 z1 z2 M0 M3 c2 u1 u2 S0 S1 S2 S3 S4 AR
      have x0 := cell_of_row _ _ 0 _ _ _ T0.out
      have x1 := cell_of_row _ _ 1 _ _ _ T0.out
      have x2 := cell_of_row _ _ 2 _ _ _ T0.out
      have x3 := cell_of_row _ _ 3 _ _ _ T0.out
      have x4 := cell_of_row _ _ 4 _ _ _ T0.out
      have x5 := cell_of_row _ _ 5 _ _ _ T0.out
      have IB := hid (show IsFl X (some ⟨b1, 0, none⟩) 6 lvB from fun k hk => ⟨lvB_in k, b1, 0, rfl, T1.out.lt, by rw [Nat.zero_add]; exact T1.out.cell hk⟩)
      have IW := hid (Sh.row_in T2.out (fun i hi => by unfold lvW; split <;> omega))
      have IT := hid (Sh.row_in T3.out (fun i hi => by unfold lvT; split <;> omega))
      have IS := hid (show IsFl X (some ⟨b4, 0, none⟩) 12 (fun _ => 0) from fun k hk => ⟨by show (0 : Nat) < _; decide, b4, 0, rfl, T4.out.lt, by rw [Nat.zero_add]; exact T4.out.cell hk⟩)
      have CR := hid ((HR.out 1 gb (some ⟨b1, 0, none⟩) 6 6 lvB (some ⟨b2, 0, none⟩) 6 6 lvW (some ⟨b3, 0, none⟩) 6 6 lvT (some ⟨b4, 0, none⟩) 12 12 (fun _ => 0) 0 0 X (by omega) (G1.out.to AT.out) IB.out IW.out IT.out IS.out).1 lv_good)
      go_wp2_with fail
      refine CR.out.mono ?_
      rintro e9 Y ⟨va, vb, rfl, by1, oa, ob, -⟩
      have kk := (runR_ok (B := lvB) (Nat.le_refl 1) lv_good).1
      obtain ⟨pa, ca, rfl, ia⟩ := own_w19 oa (fun c hc => by have := kk.1.b hc; unfold Sh.W64; omega)
      obtain ⟨pb, cb, rfl, ib⟩ := own_w19 ob (fun c hc => by have := kk.2.b hc; unfold Sh.W64; omega)
      obtain ⟨qa, ra, rfl⟩ := ia.some0 (by omega)
      obtain ⟨qb, rb, rfl⟩ := ib.some0 (by omega)
      have d1 := (ia.at0 (k := 0) (by omega)).2.2
      have d2 := (ia.at0 (k := 5) (by omega)).2.2
      have d3 := (ib.at0 (k := 0) (by omega)).2.2
      have d4 := (ib.at0 (k := 5) (by omega)).2.2
      rw [lv_run.1] at d1
      rw [lv_run.2.1] at d2
      rw [lv_run.2.2.1] at d3
      rw [lv_run.2.2.2] at d4
      rw [Nat.add_zero] at d1 d3
      have AY : Hid (Ab X Y) := by1
      have Y0 := hid (Ab.heap AY.out T0.out)
      have y0 := cell_of_row _ _ 0 _ _ _ Y0.out
      clear oa ob kk ia ib by1 CR x0 x1 x2 x3 x4 x5
      have D0 := hid (HD.out 1 gb (some ⟨b1, 0, none⟩) 6 6 lvB 0 Y (by omega) (G1.out.to (AT.out.trans AY.out)) (IB.out.below AY.out) (by unfold Sh.W64; omega))
      rw [show (if (6 : Nat) = 6 * 1 * 1 ∧ (0 : Int) ≤ 0 ∧ (0 : Int) < ((6 * 1 * 1 : Nat) : Int) then dnR 1 lvB (0 : Int).toNat else -1) = 5 from (if_pos (by decide)).trans lv_d0] at D0
      go_wp2_with fail
      refine D0.out.mono ?_
      rintro e9 Z ⟨rfl, b5⟩
      have AZ : Hid (Ab X Z) := AY.out.trans b5
      have Z0 := hid (Ab.heap AZ.out T0.out)
      clear b5 D0 d1 d2 d3 d4 y0
      have y0 := cell_of_row _ _ 0 _ _ _ Z0.out
      have D5 := hid (HD.out 1 gb (some ⟨b1, 0, none⟩) 6 6 lvB 5 Z (by omega) (G1.out.to (AT.out.trans AZ.out)) (IB.out.below AZ.out) (by unfold Sh.W64; omega))
      rw [show (if (6 : Nat) = 6 * 1 * 1 ∧ (0 : Int) ≤ 5 ∧ (5 : Int) < ((6 * 1 * 1 : Nat) : Int) then dnR 1 lvB (5 : Int).toNat else -1) = -1 from (if_pos (by decide)).trans lv_d5] at D5
      go_wp2_with fail
      refine D5.out.mono ?_
      rintro e9 Q ⟨rfl, b6⟩
      have AQ : Hid (Ab X Q) := AZ.out.trans b6
      clear b6 D5 y0
      have O4 := hid (HO.out (some ⟨Q.heap.size, 0, none⟩) 4 4 lvO (Q.alloc (.cells #[.float .f64 4607182418800017408, .float .f64 4613937818241073152, .float .f64 4611686018427387904, .float .f64 4613937818241073152] 47)) (by omega) (four_fl19 Q))
      rw [lv_ord2] at O4
      have AO : Hid (Ab X (Q.alloc (.cells #[.float .f64 4607182418800017408, .float .f64 4613937818241073152, .float .f64 4611686018427387904, .float .f64 4613937818241073152] 47))) := AQ.out.alloc _
      go_wp2_with fail
      refine O4.out.mono ?_
      rintro e9 P ⟨vo, rfl, b7, o7⟩
      obtain ⟨po, co, rfl, io⟩ := OwnN.in o7 (fun x hx => by simp at hx; omega)
      have AP : Hid (Ab X P) := AO.out.trans b7
      have HIO := hid io
      clear b7 o7 io O4
      have NU := hid (numbers19_at po (some ⟨P.heap.size, 0, none⟩) 4 co 4 _ (P.alloc (.cells #[.int .i64 1, .int .i64 3, .int .i64 2, .int .i64 0] 3)) (by omega) (HIO.out.below (bl1 _ _)) (four_in19 P))
      have AN : Hid (Ab X (P.alloc (.cells #[.int .i64 1, .int .i64 3, .int .i64 2, .int .i64 0] 3))) := AP.out.alloc _
      go_wp2_with fail
      refine NU.out.mono ?_
      rintro e9 U ⟨rfl, b8⟩
      have AU : Hid (Ab w U) := AW1.out.trans (AT.out.trans (AN.out.trans b8))
      clear b8
      go_wp2
      go_ret
      exact ⟨rfl, AU.out⟩
end Rv
end Go.Proofs.YtbibhgikmnpbfaaGreatDoor

namespace Go.Proofs.YtbibhgikmnpbfaaGreatDoor
open Go.RowKit Tf Cu Go.Deep
attribute [local go_sem] run_bits run_from raw_feq raw_fne raw_flt raw_fgt run_neg run_store_float
namespace Rv
set_option maxRecDepth 100000 in
set_option maxHeartbeats 16000000 in
theorem rruns_no (side : Int) {pb : Option Addr} {lb cb : Nat} {pw : Option Addr} {lw cw : Nat} {pt : Option Addr} {lt ct : Nat} {ps : Option Addr} {ls cs : Nat} {sky st : Int} (w : World)
    (LV : Hid (∀ v, Ab w v → Calls Tryz.prog 5 #[] v fun e w' => e = .returned (.bool true) ∧ Below v.heap.size v w'))
    (RNN : Hid (∀ v, Ab w v → Calls Tryz.prog 6 #[.pointer none, .agg #[.slice pb lb cb, .slice pw lw cw, .slice pt lt ct, .slice ps ls cs, .int .i64 sky, .int .i64 st]] v fun e w' => e = .returned (.tuple #[.slice none 0 0, .slice none 0 0, .int .i64 2]) ∧ Below v.heap.size v w'))
    (NW : Hid (∀ v, Calls Tryz.prog 7 #[.int .i64 side] v fun e w' => e = .returned (.tuple #[.pointer none, .int .i64 10]) ∧ w' = v))
    (RW : Hid (∀ v, Calls Tryz.prog 8 #[.int .i64 side] v fun e w' => e = .returned (.tuple #[.pointer none, .int .i64 10]) ∧ w' = v)) :
    Calls Tryz.prog 3 #[.int .i64 side, .agg #[.slice pb lb cb, .slice pw lw cw, .slice pt lt ct, .slice ps ls cs, .int .i64 sky, .int .i64 st]] w fun e w' => e = .returned (.bool true) ∧ Below w.heap.size w w' := by
  have A0 : Hid (Ab w (w.alloc (.cells #[.slice pb lb cb, .slice pw lw cw, .slice pt lt ct, .slice ps ls cs, .int .i64 sky, .int .i64 st] 25))) := bl1 _ _
  have R0 : Hid ((w.alloc (.cells #[.slice pb lb cb, .slice pw lw cw, .slice pt lt ct, .slice ps ls cs, .int .i64 sky, .int .i64 st] 25)).heap[w.heap.size]? = some (.cells #[.slice pb lb cb, .slice pw lw cw, .slice pt lt ct, .slice ps ls cs, .int .i64 sky, .int .i64 st] 25)) := heap_alloc_new _ _
  go_enter Tryz.func3, Tryz.ntmps3
  go_upto_region 1 with fail
  generalize hW : World.alloc w _ = W0 at *
  obtain ⟨gw, hgw⟩ : ∃ g, w.heap.size = g := ⟨_, rfl⟩
  rw [hgw] at R0 ⊢
  clear hgw hW
  go_wp2_with fail
  refine (LV.out _ A0.out).mono ?_
  rintro e9 v0 ⟨rfl, b0⟩
  have A1 : Hid (Ab w v0) := A0.out.trans b0
  have R1 := hid (Ab.heap b0 R0.out)
  clear b0 A0 R0
  have x0 := cell_of_row _ _ 0 _ _ _ R1.out
  have x1 := cell_of_row _ _ 1 _ _ _ R1.out
  have x2 := cell_of_row _ _ 2 _ _ _ R1.out
  have x3 := cell_of_row _ _ 3 _ _ _ R1.out
  have x4 := cell_of_row _ _ 4 _ _ _ R1.out
  have x5 := cell_of_row _ _ 5 _ _ _ R1.out
  go_wp2_with fail
  refine (RNN.out _ A1.out).mono ?_
  rintro e9 v2 ⟨rfl, b2⟩
  have A2 : Hid (Ab w v2) := A1.out.trans b2
  have R2 := hid (Ab.heap b2 R1.out)
  clear b2 x0 x1 x2 x3 x4 x5 A1 R1
  go_wp2_with fail
  refine (NW.out _).mono ?_
  rintro e9 v9 ⟨rfl, hv9⟩
  have hv8 := hv9.symm
  subst hv8
  go_wp2_with fail
  refine (RW.out _).mono ?_
  rintro e9 v9 ⟨rfl, hv9⟩
  have hv8 := hv9.symm
  subst hv8
  go_wp2
  go_ret
  exact ⟨rfl, A2.out⟩
set_option maxRecDepth 100000 in
set_option maxHeartbeats 16000000 in
theorem rruns_go (n : Nat) (side : Int) {pb : Option Addr} {lb cb : Nat} {pw : Option Addr} {lw cw : Nat} {pt : Option Addr} {lt ct : Nat} {ps : Option Addr} {ls cs : Nat} {sky st : Int} (la lt2 : Nat) (X Y : Nat → Int) (er : Int) (w : World) (hl : la ≤ 6144 ∧ lt2 ≤ 6144)
    (LV : Hid (∀ v, Ab w v → Calls Tryz.prog 5 #[] v fun e w' => e = .returned (.bool true) ∧ Below v.heap.size v w'))
    (RNN : Hid (∀ v, Ab w v → Calls Tryz.prog 6 #[.pointer none, .agg #[.slice pb lb cb, .slice pw lw cw, .slice pt lt ct, .slice ps ls cs, .int .i64 sky, .int .i64 st]] v fun e w' => e = .returned (.tuple #[.slice none 0 0, .slice none 0 0, .int .i64 2]) ∧ Below v.heap.size v w'))
    (NW : Hid (∀ v, Ab w v → Calls Tryz.prog 7 #[.int .i64 side] v fun e w' => ∃ gb, e = .returned (.tuple #[.pointer (some ⟨gb, 0, none⟩), .int .i64 0]) ∧ Ab v w' ∧ GridOf n gb w'))
    (RW : Hid (∀ v, Ab w v → Calls Tryz.prog 8 #[.int .i64 side] v fun e w' => ∃ rb, e = .returned (.tuple #[.pointer (some ⟨rb, 0, none⟩), .int .i64 0]) ∧ Ab v w' ∧ RefOf n rb w'))
    (RN : Hid (∀ v gb, Ab w v → GridOf n gb v → Calls Tryz.prog 6 #[.pointer (some ⟨gb, 0, none⟩), .agg #[.slice pb lb cb, .slice pw lw cw, .slice pt lt ct, .slice ps ls cs, .int .i64 sky, .int .i64 st]] v fun e w' => ∃ p1 c1 p2 c2, e = .returned (.tuple #[.slice p1 la c1, .slice p2 lt2 c2, .int .i64 er]) ∧ Below v.heap.size v w' ∧ Sh.IsI w' p1 la X ∧ Sh.IsI w' p2 lt2 Y))
    (RR : Hid (∀ v rb, Ab w v → RefOf n rb v → Calls Tryz.prog 9 #[.pointer (some ⟨rb, 0, none⟩), .agg #[.slice pb lb cb, .slice pw lw cw, .slice pt lt ct, .slice ps ls cs, .int .i64 sky, .int .i64 st]] v fun e w' => ∃ p1 c1 p2 c2, e = .returned (.tuple #[.slice p1 la c1, .slice p2 lt2 c2, .int .i64 er]) ∧ Below v.heap.size v w' ∧ Sh.IsI w' p1 la X ∧ Sh.IsI w' p2 lt2 Y)) :
    Calls Tryz.prog 3 #[.int .i64 side, .agg #[.slice pb lb cb, .slice pw lw cw, .slice pt lt ct, .slice ps ls cs, .int .i64 sky, .int .i64 st]] w fun e w' => e = .returned (.bool true) ∧ Below w.heap.size w w' := by
  have HL := hid hl
  have ee : (er == er) = true := by simp
  clear hl
  have A0 : Hid (Ab w (w.alloc (.cells #[.slice pb lb cb, .slice pw lw cw, .slice pt lt ct, .slice ps ls cs, .int .i64 sky, .int .i64 st] 25))) := bl1 _ _
  have R0 : Hid ((w.alloc (.cells #[.slice pb lb cb, .slice pw lw cw, .slice pt lt ct, .slice ps ls cs, .int .i64 sky, .int .i64 st] 25)).heap[w.heap.size]? = some (.cells #[.slice pb lb cb, .slice pw lw cw, .slice pt lt ct, .slice ps ls cs, .int .i64 sky, .int .i64 st] 25)) := heap_alloc_new _ _
  go_enter Tryz.func3, Tryz.ntmps3
  go_upto_region 1 with fail
  generalize hW : World.alloc w _ = W0 at *
  obtain ⟨gw, hgw⟩ : ∃ g, w.heap.size = g := ⟨_, rfl⟩
  rw [hgw] at R0 ⊢
  clear hgw hW
  go_wp2_with fail
  refine (LV.out _ A0.out).mono ?_
  rintro e9 v0 ⟨rfl, b0⟩
  have A1 : Hid (Ab w v0) := A0.out.trans b0
  have R1 := hid (Ab.heap b0 R0.out)
  clear b0 A0 R0
  have x0 := cell_of_row _ _ 0 _ _ _ R1.out
  have x1 := cell_of_row _ _ 1 _ _ _ R1.out
  have x2 := cell_of_row _ _ 2 _ _ _ R1.out
  have x3 := cell_of_row _ _ 3 _ _ _ R1.out
  have x4 := cell_of_row _ _ 4 _ _ _ R1.out
  have x5 := cell_of_row _ _ 5 _ _ _ R1.out
  go_wp2_with fail
  refine (RNN.out _ A1.out).mono ?_
  rintro e9 v2 ⟨rfl, b2⟩
  have A2 : Hid (Ab w v2) := A1.out.trans b2
  have R2 := hid (Ab.heap b2 R1.out)
  clear b2 x0 x1 x2 x3 x4 x5 A1 R1
  go_wp2_with fail
  refine (NW.out _ A2.out).mono ?_
  rintro e9 v3 ⟨gb, rfl, a3, g3⟩
  have A3 : Hid (Ab w v3) := A2.out.trans a3
  have R3 := hid (Ab.heap a3 R2.out)
  have G3 := hid g3
  clear a3 g3 A2 R2
  go_wp2_with fail
  refine (RW.out _ A3.out).mono ?_
  rintro e9 v4 ⟨rb, rfl, a4, r4⟩
  have A4 : Hid (Ab w v4) := A3.out.trans a4
  have R4 := hid (Ab.heap a4 R3.out)
  have G4 := hid (G3.out.to a4)
  have Q4 := hid r4
  clear a4 r4 A3 R3 G3
  have x0 := cell_of_row _ _ 0 _ _ _ R4.out
  have x1 := cell_of_row _ _ 1 _ _ _ R4.out
  have x2 := cell_of_row _ _ 2 _ _ _ R4.out
  have x3 := cell_of_row _ _ 3 _ _ _ R4.out
  have x4 := cell_of_row _ _ 4 _ _ _ R4.out
  have x5 := cell_of_row _ _ 5 _ _ _ R4.out
  go_wp2_with fail
  refine (RN.out _ gb A4.out G4.out).mono ?_
  rintro e9 v5 ⟨p1, c1, p2, c2, rfl, b5, i1, i2⟩
  have B5 : Hid (Ab v4 v5) := b5
  have R5 := hid (Ab.heap b5 R4.out)
  have I1 := hid i1
  have I2 := hid i2
  clear b5 i1 i2 x0 x1 x2 x3 x4 x5
  have x0 := cell_of_row _ _ 0 _ _ _ R5.out
  have x1 := cell_of_row _ _ 1 _ _ _ R5.out
  have x2 := cell_of_row _ _ 2 _ _ _ R5.out
  have x3 := cell_of_row _ _ 3 _ _ _ R5.out
  have x4 := cell_of_row _ _ 4 _ _ _ R5.out
  have x5 := cell_of_row _ _ 5 _ _ _ R5.out
  go_wp2_with fail
  refine (RR.out _ rb (A4.out.trans B5.out) (Q4.out.to B5.out)).mono ?_
  rintro e9 v6 ⟨p3, c3, p4, c4, rfl, b6, i3, i4⟩
  have B6 : Hid (Ab v5 v6) := b6
  have I3 := hid i3
  have I4 := hid i4
  clear b6 i3 i4 x0 x1 x2 x3 x4 x5
  go_wp2_with fail
  refine (ints19_at p1 p3 la c1 c3 _ v6 (by have := HL.out; omega) (I1.out.below B6.out) I3.out).mono ?_
  rintro e9 v7 ⟨rfl, b7⟩
  have B7 : Hid (Ab v6 v7) := b7
  clear b7
  go_wp2_with fail
  refine (ints19_at p2 p4 lt2 c2 c4 _ v7 (by have := HL.out; omega) (I2.out.below (B6.out.trans B7.out)) (I4.out.below B7.out)).mono ?_
  rintro e9 v8 ⟨rfl, b8⟩
  have B8 : Hid (Ab v7 v8) := b8
  clear b8
  go_wp2
  go_ret
  exact ⟨rfl, A4.out.trans (B5.out.trans (B6.out.trans (B7.out.trans B8.out)))⟩
/-- what Run is to answer of no net -/
def RunN : Prop := ∀ (pb : Option Addr) (lb cb : Nat) (B : Nat → Nat) (pw : Option Addr) (lw cw : Nat) (W : Nat → Int) (pt : Option Addr) (lt ct : Nat) (T : Nat → Int) (ps : Option Addr) (ls cs : Nat) (Sp : Nat → Nat) (sky st : Int) (w : World), IsFl w pb lb B → Sh.IsI w pw lw W → Sh.IsI w pt lt T → IsFl w ps ls Sp →
    Calls Tryz.prog 6 #[.pointer none, .agg #[.slice pb lb cb, .slice pw lw cw, .slice pt lt ct, .slice ps ls cs, .int .i64 sky, .int .i64 st]] w fun e w' => e = .returned (.tuple #[.slice none 0 0, .slice none 0 0, .int .i64 2]) ∧ Below w.heap.size w w'
/-- RUN IS THE DOCUMENT'S -/
theorem rruns_at (DC : DownC) (OC : OrderC) (RC : RunC) (RNN : RunN) (side : Int) {pb : Option Addr} {lb cb : Nat} {pw : Option Addr} {lw cw : Nat} {pt : Option Addr} {lt ct : Nat} {ps : Option Addr} {ls cs : Nat} {sky st : Int} {B : Nat → Nat} {W T : Nat → Int} {Sp : Nat → Nat} (w : World) (hF : Fr w) (ib : IsFl w pb lb B) (iw : Sh.IsI w pw lw W) (it : Sh.IsI w pt lt T) (is : IsFl w ps ls Sp) :
    Calls Tryz.prog 3 #[.int .i64 side, .agg #[.slice pb lb cb, .slice pw lw cw, .slice pt lt ct, .slice ps ls cs, .int .i64 sky, .int .i64 st]] w fun e w' => e = .returned (.bool true) ∧ Below w.heap.size w w' := by
  have LV : Hid (∀ v, Ab w v → Calls Tryz.prog 5 #[] v fun e w' => e = .returned (.bool true) ∧ Below v.heap.size v w') := fun v a => lives19_at DC OC RC v (hF.to a)
  have nil := fun v (a : Ab w v) => RNN pb lb cb B pw lw cw W pt lt ct T ps ls cs Sp sky st v (ib.below a) (iw.below a) (it.below a) (is.below a)
  by_cases h : 1 ≤ side ∧ side ≤ 32
  · obtain ⟨n, rfl⟩ : ∃ n : Nat, side = (n : Nat) := ⟨side.toNat, by omega⟩
    have hn : 1 ≤ n ∧ n ≤ 32 := by omega
    have NW : Hid (∀ v, Ab w v → Calls Tryz.prog 7 #[.int .i64 (n : Nat)] v fun e w' => ∃ gb, e = .returned (.tuple #[.pointer (some ⟨gb, 0, none⟩), .int .i64 0]) ∧ Ab v w' ∧ GridOf n gb w') := fun v a => (new_at n v hn (hF.to a)).mono fun e w' h => by
      obtain ⟨gb, rfl, a1, -, g⟩ := h
      exact ⟨gb, rfl, a1, g⟩
    have RW : Hid (∀ v, Ab w v → Calls Tryz.prog 8 #[.int .i64 (n : Nat)] v fun e w' => ∃ rb, e = .returned (.tuple #[.pointer (some ⟨rb, 0, none⟩), .int .i64 0]) ∧ Ab v w' ∧ RefOf n rb w') := fun v _ => (rnew_at n v hn).mono fun e w' h => by
      obtain ⟨rb, ab, es, rfl, a1, re⟩ := h
      exact ⟨rb, rfl, a1, RE.all hn.1 re⟩
    have nb : 6 * n * n ≤ 6144 := by
      have h1 : n * n ≤ 32 * 32 := Nat.mul_le_mul hn.2 hn.2
      rw [Nat.mul_assoc]
      omega
    have r1 := fun v gb (a : Ab w v) (g : GridOf n gb v) => RC n gb pb lb cb B pw lw cw W pt lt ct T ps ls cs Sp sky st v hn g (ib.below a) (iw.below a) (it.below a) (is.below a)
    have r2 := fun v rb (a : Ab w v) (g : RefOf n rb v) => rrun_at n rb pb lb cb pw lw cw pt lt ct ps ls cs sky st B W T v hn g (ib.below a) (iw.below a) (it.below a)
    by_cases gd : good19 n lb lw lt ls W T
    · have k := runR_ok (B := B) hn.1 gd
      refine rruns_go n (n : Nat) (6 * n * n) (6 * n * n) (runR n B W T).1 (runR n B W T).2 0 w ⟨nb, nb⟩ LV nil NW RW (fun v gb a g => ((r1 v gb a g).1 gd).mono fun e w' h => ?_) (fun v rb a g => ((r2 v rb a g).1 gd).mono fun e w' h => ?_)
      · obtain ⟨va, vb, rfl, b, oa, ob, -⟩ := h
        obtain ⟨p1, c1, rfl, i1⟩ := own_w19 oa (fun c hc => by have := k.1.1.b hc; unfold Sh.W64; omega)
        obtain ⟨p2, c2, rfl, i2⟩ := own_w19 ob (fun c hc => by have := k.1.2.b hc; unfold Sh.W64; omega)
        exact ⟨p1, c1, p2, c2, rfl, b, i1, i2⟩
      · obtain ⟨va, vb, rfl, b, oa, ob⟩ := h
        obtain ⟨p1, c1, rfl, i1⟩ := own_w19 oa (fun c hc => by have := k.1.1.b hc; unfold Sh.W64; omega)
        obtain ⟨p2, c2, rfl, i2⟩ := own_w19 ob (fun c hc => by have := k.1.2.b hc; unfold Sh.W64; omega)
        exact ⟨p1, c1, p2, c2, rfl, b, i1, i2⟩
    · refine rruns_go n (n : Nat) 0 0 (fun _ => 0) (fun _ => 0) 1 w ⟨by omega, by omega⟩ LV nil NW RW (fun v gb a g => ((r1 v gb a g).2 gd).mono fun e w' h => ?_) (fun v rb a g => ((r2 v rb a g).2 gd).mono fun e w' h => ?_)
      · obtain ⟨rfl, b⟩ := h
        exact ⟨none, 0, none, 0, rfl, b, Sh.IsI.nil _ _ _, Sh.IsI.nil _ _ _⟩
      · obtain ⟨rfl, b⟩ := h
        exact ⟨none, 0, none, 0, rfl, b, Sh.IsI.nil _ _ _, Sh.IsI.nil _ _ _⟩
  · exact rruns_no side w LV nil (fun v => new_no side v h) (fun v => rnew_no side v h)
end Rv
end Go.Proofs.YtbibhgikmnpbfaaGreatDoor

namespace Go.Proofs.YtbibhgikmnpbfaaGreatDoor
open Go.RowKit Tf Cu Go.Deep
attribute [local go_sem] run_bits run_from raw_feq raw_fne raw_flt raw_fgt run_neg run_store_float
namespace Rv
/-- how two beds stand to each other -/
def cmp3 (x y : Nat) : Int := if kb x < kb y then -1 else if kb y < kb x then 1 else 0
theorem cmp3_lt {x y : Nat} (h : kb x < kb y) : cmp3 x y = -1 := if_pos h
theorem cmp3_gt {x y : Nat} (h : kb y < kb x) : cmp3 x y = 1 := by unfold cmp3; rw [if_neg (by omega), if_pos h]
theorem cmp3_eq {x y : Nat} (h : kb x = kb y) : cmp3 x y = 0 := by unfold cmp3; rw [if_neg (by omega), if_neg (by omega)]
/-- where a cell's water runs by the sides below k -/
def dk (K nb : Nat → Nat) (c : Nat) : Nat → Int
  | 0 => -1
  | k + 1 => if K (bst K nb k) < K c then ((bst K nb k : Nat) : Int) else -1
theorem bst_next (K nb : Nat → Nat) (k : Nat) : bst K nb (k + 1) = if lt2 K (nb (k + 1)) (bst K nb k) = true then nb (k + 1) else bst K nb k := rfl
theorem dk_no {K nb : Nat → Nat} {c k : Nat} (h : dk K nb c k < 0) : dk K nb c k = -1 ∧ dk K nb c (k + 1) = if K (nb k) < K c then ((nb k : Nat) : Int) else -1 := by
  cases k with
  | zero => exact ⟨rfl, rfl⟩
  | succ k =>
    have h1 : ¬ K (bst K nb k) < K c := fun q => by
      have h2 : (if K (bst K nb k) < K c then ((bst K nb k : Nat) : Int) else -1) < 0 := h
      rw [if_pos q] at h2
      omega
    refine ⟨if_neg h1, ?_⟩
    show (if K (bst K nb (k + 1)) < K c then ((bst K nb (k + 1) : Nat) : Int) else -1) = _
    rw [bst_next]
    by_cases q : lt2 K (nb (k + 1)) (bst K nb k) = true
    · rw [if_pos q]
    · rw [if_neg q, if_neg h1, if_neg]
      intro q2
      exact q (lt2_iff.2 (.inl (by omega)))
theorem dk_yes {K nb : Nat → Nat} {c k m : Nat} (h : dk K nb c k = (m : Nat)) : (∃ s, s < k ∧ nb s = m) ∧ K m < K c ∧ dk K nb c (k + 1) = if lt2 K (nb k) m = true then ((nb k : Nat) : Int) else ((m : Nat) : Int) := by
  cases k with
  | zero => have h2 : (-1 : Int) = (m : Nat) := h; omega
  | succ k =>
    have h1 : K (bst K nb k) < K c := by
      rcases Nat.lt_or_ge (K (bst K nb k)) (K c) with q | q
      · exact q
      · have h2 : (if K (bst K nb k) < K c then ((bst K nb k : Nat) : Int) else -1) = (m : Nat) := h
        rw [if_neg (by omega)] at h2
        omega
    have h2 : bst K nb k = m := by
      have h2 : (if K (bst K nb k) < K c then ((bst K nb k : Nat) : Int) else -1) = (m : Nat) := h
      rw [if_pos h1] at h2
      omega
    obtain ⟨s, l, e⟩ := bst_in K nb k
    rw [h2] at h1 e
    refine ⟨⟨s, by omega, e.symm⟩, h1, ?_⟩
    show (if K (bst K nb (k + 1)) < K c then ((bst K nb (k + 1) : Nat) : Int) else -1) = _
    rw [bst_next, h2]
    by_cases q : lt2 K (nb (k + 1)) m = true
    · rw [if_pos q, if_pos q, if_pos]
      rcases lt2_iff.1 q with q | q <;> omega
    · rw [if_neg q, if_neg q, if_pos h1]
/-- the bed that is least so far -/
def lk (B nb : Nat → Nat) (c k : Nat) : Nat := if dk (kB B) nb c k < 0 then B c else B (dk (kB B) nb c k).toNat
set_option maxRecDepth 100000 in
set_option maxHeartbeats 16000000 in
theorem compare19_at (a b : Nat) (w : World) (ha : a < 18446744073709551616) (hb : b < 18446744073709551616) :
    Calls Tryz.prog 44 #[.float .f64 a, .float .f64 b] w fun e w' => e = .returned (.int .i64 (cmp3 a b)) ∧ w' = w := by
  obtain ⟨x, hx⟩ : ∃ x, canonB a = x := ⟨_, rfl⟩
  obtain ⟨y, hy⟩ : ∃ x, canonB b = x := ⟨_, rfl⟩
  have C1 := hid (canon_at a x w ha hx)
  have C2 := hid (canon_at b y w hb hy)
  have lx : x < 18446744073709551616 := by rw [← hx]; exact canon_lt ha
  have ly : y < 18446744073709551616 := by rw [← hy]; exact canon_lt hb
  obtain ⟨o, ho⟩ : ∃ o, orderB x y = o := ⟨_, rfl⟩
  have O := hid (ord_at x y o w lx ly ho)
  have E : Hid (cmp3 a b = o) := by
    show _ = _
    unfold cmp3 kb
    rw [hx, hy, ← ho]
    rfl
  clear ho hx hy ha hb lx ly
  go_enter Tryz.func44, Tryz.ntmps44
  go_wp2_with fail
  refine C1.out.mono ?_
  rintro e9 v9 ⟨rfl, hv9⟩
  have hv8 := hv9.symm
  subst hv8
  go_wp2_with fail
  refine C2.out.mono ?_
  rintro e9 v9 ⟨rfl, hv9⟩
  have hv8 := hv9.symm
  subst hv8
  go_wp2_with fail
  refine O.out.mono ?_
  rintro e9 v9 ⟨rfl, hv9⟩
  have hv8 := hv9.symm
  subst hv8
  go_wp2
  go_ret
  exact ⟨by rw [E.out]; rfl, rfl⟩
theorem around19 {n gb c s : Nat} {v : World} (hn : 1 ≤ n ∧ n ≤ 32) (hc : c < 6 * n * n) (hs : s < 4) (g : GridOf n gb v) : Calls Tryz.prog 78 #[.pointer (some ⟨gb, 0, none⟩), .int .i64 (c : Nat), .int .i64 (s : Nat)] v fun e w' => e = .returned (.tuple #[.int .i64 (eE n (4 * c + s) : Nat), .int .i64 (eS n (4 * c + s))]) ∧ Below v.heap.size v w' := by
  have e : gT n (24 * n * n) (c : Nat) (s : Nat) = (((eE n (4 * c + s) : Nat) : Int), eS n (4 * c + s)) := by
    have ht := t_lt hc hs
    have hm := mt_lt hn.1 ht
    rw [gT_nat, if_pos ⟨hc, hs⟩]
    unfold gN eE eS
    by_cases q : isL n (4 * c + s) = true
    · simp [q, ht]
    · simp [q, hm]
  have b : c < 6144 := by
    have h1 : n * n ≤ 32 * 32 := Nat.mul_le_mul hn.2 hn.2
    rw [Nat.mul_assoc] at hc
    omega
  have h := gAround_at (n := n) (gb := gb) (c := (c : Nat)) (s := (s : Nat)) (w := v) ⟨by omega, by omega⟩ ⟨by omega, by omega⟩ g
  rwa [e] at h
set_option maxRecDepth 100000 in
set_option maxHeartbeats 16000000 in
theorem beside_pos (gb e l s r q : Nat) (cell over : Int) (w : World)
    (AR : Hid (∀ v, Ab w v → Calls Tryz.prog 78 #[.pointer (some ⟨gb, 0, none⟩), .int .i64 cell, .int .i64 over] v fun e9 w' => e9 = .returned (.tuple #[.int .i64 (e : Nat), .int .i64 (1)]) ∧ Below v.heap.size v w'))
    (ED : Hid (∀ v, Ab w v → Calls Tryz.prog 79 #[.pointer (some ⟨gb, 0, none⟩), .int .i64 (e : Nat)] v fun e9 w' => e9 = .returned (.tuple #[.agg #[.int .i64 (l : Nat), .int .i64 (s : Nat), .int .i64 (r : Nat), .int .i64 (q : Nat)], .bool true]) ∧ Below v.heap.size v w')) :
    Calls Tryz.prog 47 #[.pointer (some ⟨gb, 0, none⟩), .int .i64 cell, .int .i64 over] w fun e9 w' => e9 = .returned (.int .i64 (r : Nat)) ∧ Below w.heap.size w w' := by
  go_enter Tryz.func47, Tryz.ntmps47
  go_wp2_with fail
  refine (AR.out _ (Ab.refl w)).mono ?_
  rintro e9 v1 ⟨rfl, b1⟩
  have A1 : Hid (Ab w v1) := b1
  clear b1
  go_wp2_with fail
  refine (ED.out _ A1.out).mono ?_
  rintro e9 v2 ⟨rfl, b2⟩
  have A2 : Hid (Ab w v2) := A1.out.trans b2
  clear b2
  have A3 : Hid (Ab w (v2.alloc (.cells #[.int .i64 0, .int .i64 0, .int .i64 0, .int .i64 0] 72))) := A2.out.trans (bl1 _ _)
  have c0 : (v2.alloc (.cells #[.int .i64 (l : Nat), .int .i64 (s : Nat), .int .i64 (r : Nat), .int .i64 (q : Nat)] 72)).cell? ⟨v2.heap.size, 0, none⟩ = some (.int .i64 (l : Nat)) := cell_of_row _ _ 0 _ _ _ (heap_alloc_new _ _)
  have c2 : (v2.alloc (.cells #[.int .i64 (l : Nat), .int .i64 (s : Nat), .int .i64 (r : Nat), .int .i64 (q : Nat)] 72)).cell? ⟨v2.heap.size, 2, none⟩ = some (.int .i64 (r : Nat)) := cell_of_row _ _ 2 _ _ _ (heap_alloc_new _ _)
  go_wp2
  go_ret
  exact ⟨rfl, A2.out.trans (bl1 _ _)⟩
set_option maxRecDepth 100000 in
set_option maxHeartbeats 16000000 in
theorem beside_neg (gb e l s r q : Nat) (cell over : Int) (w : World)
    (AR : Hid (∀ v, Ab w v → Calls Tryz.prog 78 #[.pointer (some ⟨gb, 0, none⟩), .int .i64 cell, .int .i64 over] v fun e9 w' => e9 = .returned (.tuple #[.int .i64 (e : Nat), .int .i64 (-1)]) ∧ Below v.heap.size v w'))
    (ED : Hid (∀ v, Ab w v → Calls Tryz.prog 79 #[.pointer (some ⟨gb, 0, none⟩), .int .i64 (e : Nat)] v fun e9 w' => e9 = .returned (.tuple #[.agg #[.int .i64 (l : Nat), .int .i64 (s : Nat), .int .i64 (r : Nat), .int .i64 (q : Nat)], .bool true]) ∧ Below v.heap.size v w')) :
    Calls Tryz.prog 47 #[.pointer (some ⟨gb, 0, none⟩), .int .i64 cell, .int .i64 over] w fun e9 w' => e9 = .returned (.int .i64 (l : Nat)) ∧ Below w.heap.size w w' := by
  go_enter Tryz.func47, Tryz.ntmps47
  go_wp2_with fail
  refine (AR.out _ (Ab.refl w)).mono ?_
  rintro e9 v1 ⟨rfl, b1⟩
  have A1 : Hid (Ab w v1) := b1
  clear b1
  go_wp2_with fail
  refine (ED.out _ A1.out).mono ?_
  rintro e9 v2 ⟨rfl, b2⟩
  have A2 : Hid (Ab w v2) := A1.out.trans b2
  clear b2
  have A3 : Hid (Ab w (v2.alloc (.cells #[.int .i64 0, .int .i64 0, .int .i64 0, .int .i64 0] 72))) := A2.out.trans (bl1 _ _)
  have c0 : (v2.alloc (.cells #[.int .i64 (l : Nat), .int .i64 (s : Nat), .int .i64 (r : Nat), .int .i64 (q : Nat)] 72)).cell? ⟨v2.heap.size, 0, none⟩ = some (.int .i64 (l : Nat)) := cell_of_row _ _ 0 _ _ _ (heap_alloc_new _ _)
  have c2 : (v2.alloc (.cells #[.int .i64 (l : Nat), .int .i64 (s : Nat), .int .i64 (r : Nat), .int .i64 (q : Nat)] 72)).cell? ⟨v2.heap.size, 2, none⟩ = some (.int .i64 (r : Nat)) := cell_of_row _ _ 2 _ _ _ (heap_alloc_new _ _)
  go_wp2
  go_ret
  exact ⟨rfl, A2.out.trans (bl1 _ _)⟩
/-- the cell over a side -/
theorem beside19_at (n gb c s : Nat) (w : World) (hn : 1 ≤ n ∧ n ≤ 32) (hc : c < 6 * n * n) (hs : s < 4) (g : GridOf n gb w) :
    Calls Tryz.prog 47 #[.pointer (some ⟨gb, 0, none⟩), .int .i64 (c : Nat), .int .i64 (s : Nat)] w fun e9 w' => e9 = .returned (.int .i64 (bsC n c s : Nat)) ∧ Below w.heap.size w w' := by
  have ht : 4 * c + s < 24 * n * n := t_lt hc hs
  have hm := mt_lt hn.1 ht
  have e1 : (4 * c + s) / 4 = c := by omega
  have e2 : (4 * c + s) % 4 = s := by omega
  have ar := fun v (a : Ab w v) => around19 (v := v) hn hc hs (g.to a)
  by_cases q : isL n (4 * c + s) = true
  · have ee : eE n (4 * c + s) = eN n (4 * c + s) := by unfold eE; rw [if_pos q]
    have es : eS n (4 * c + s) = 1 := by unfold eS; rw [if_pos q]
    rw [ee, es] at ar
    have ed := fun v (a : Ab w v) => gEdge_ok (w := v) hn ht q (g.to a)
    rw [e1, e2] at ed
    exact beside_pos gb _ _ _ _ _ _ _ w ar ed
  · have ee : eE n (4 * c + s) = eN n (mt n (4 * c + s)) := by unfold eE; rw [if_neg q]
    have es : eS n (4 * c + s) = -1 := by unfold eS; rw [if_neg q]
    rw [ee, es] at ar
    have q2 : isL n (mt n (4 * c + s)) = true := by rw [isL_mt hn.1 ht]; simpa using q
    have ed := fun v (a : Ab w v) => gEdge_ok (w := v) hn hm q2 (g.to a)
    have d := (mt_dec hn.1 ht).1
    rw [e1, e2] at d
    rw [d] at ed
    exact beside_neg gb _ _ _ _ _ _ _ w ar ed
set_option maxRecDepth 100000 in
set_option maxHeartbeats 16000000 in
theorem down_len (n gb : Nat) (pb : Option Addr) (lb cb : Nat) (cell : Int) (w : World) (g : GridOf n gb w) (hl : lb ≠ 6 * n * n) :
    Calls Tryz.prog 15 #[.pointer (some ⟨gb, 0, none⟩), .slice pb lb cb, .int .i64 cell] w fun e w' => e = .returned (.int .i64 (-1)) ∧ Below w.heap.size w w' := by
  have CC := hid (gCells_at g)
  generalize 6 * n * n = N at *
  have e1 : ((lb : Int) != (N : Int)) = true := by simp; omega
  clear hl g
  go_enter Tryz.func15, Tryz.ntmps15
  go_wp2_with fail
  refine CC.out.mono ?_
  rintro e9 v9 ⟨rfl, hv9⟩
  have hv8 := hv9.symm
  subst hv8
  go_wp2
  go_ret
  exact ⟨rfl, Below.refl _ _⟩
set_option maxRecDepth 100000 in
set_option maxHeartbeats 16000000 in
theorem down_out (n gb : Nat) (pb : Option Addr) (lb cb : Nat) (cell : Int) (w : World) (g : GridOf n gb w) (hl : lb = 6 * n * n) (hc : ¬ (0 ≤ cell ∧ cell < (lb : Nat))) :
    Calls Tryz.prog 15 #[.pointer (some ⟨gb, 0, none⟩), .slice pb lb cb, .int .i64 cell] w fun e w' => e = .returned (.int .i64 (-1)) ∧ Below w.heap.size w w' := by
  have CC := hid (gCells_at g)
  rw [← hl] at CC
  have e1 : ((lb : Int) != (lb : Int)) = false := by simp
  clear hl g
  by_cases c0 : cell < 0
  · have e2 : decide (cell < 0) = true := decide_eq_true c0
    clear hc c0
    go_enter Tryz.func15, Tryz.ntmps15
    go_wp2_with fail
    refine CC.out.mono ?_
    rintro e9 v9 ⟨rfl, hv9⟩
    have hv8 := hv9.symm
    subst hv8
    go_wp2
    go_ret
    exact ⟨rfl, Below.refl _ _⟩
  · have e2 : decide (cell < 0) = false := decide_eq_false c0
    have e3 : decide ((lb : Int) ≤ cell) = true := decide_eq_true (by omega)
    clear hc c0
    go_enter Tryz.func15, Tryz.ntmps15
    go_wp2_with fail
    refine CC.out.mono ?_
    rintro e9 v9 ⟨rfl, hv9⟩
    have hv8 := hv9.symm
    subst hv8
    go_wp2
    go_ret
    exact ⟨rfl, Below.refl _ _⟩
set_option maxRecDepth 100000 in
set_option maxHeartbeats 16000000 in
theorem down_go (N gb : Nat) (qb ob : Nat) (cb : Nat) (B : Nat → Nat) (nb : Nat → Nat) (c : Nat) (w : World) (hN : N ≤ 6144) (hc : c < N) (IB : Hid (IsFl w (some ⟨qb, ob, none⟩) N B))
    (CC : Hid (Calls Tryz.prog 14 #[.pointer (some ⟨gb, 0, none⟩)] w fun e w' => e = .returned (.int .i64 (N : Nat)) ∧ w' = w))
    (BS : Hid (∀ v s, Ab w v → s < 4 → Calls Tryz.prog 47 #[.pointer (some ⟨gb, 0, none⟩), .int .i64 (c : Nat), .int .i64 (s : Nat)] v fun e w' => e = .returned (.int .i64 (nb s : Nat)) ∧ Below v.heap.size v w'))
    (NL : Hid (∀ s, s < 4 → nb s < N)) :
    Calls Tryz.prog 15 #[.pointer (some ⟨gb, 0, none⟩), .slice (some ⟨qb, ob, none⟩) N cb, .int .i64 (c : Nat)] w fun e w' => e = .returned (.int .i64 (dnI (kB B) nb c)) ∧ Below w.heap.size w w' := by
  have e1 : ((N : Int) != (N : Int)) = false := by simp
  have e2 : decide ((c : Int) < 0) = false := decide_eq_false (by omega)
  have e3 : decide ((N : Int) ≤ (c : Int)) = false := decide_eq_false (by omega)
  have e4 : decide (N ≤ c) = false := decide_eq_false (by omega)
  have HN := hid hN
  have HC := hid hc
  have cI : (c : Int) < N := by omega
  have cB : (c : Int) ≤ 6144 := by omega
  obtain ⟨xc, hxc⟩ : ∃ x, B c = x := ⟨_, rfl⟩
  have XCC := hid hxc
  have XC0 : Hid (∀ v, Ab w v → v.cell? ⟨qb, ob + c, none⟩ = some (.float .f64 xc)) := fun v a => by rw [← hxc]; exact ((IB.out.below a).at0 hc).2.2
  clear hN hc hxc
  go_enter Tryz.func15, Tryz.ntmps15
  go_wp2_with fail
  refine CC.out.mono ?_
  rintro e9 v9 ⟨rfl, hv9⟩
  have hv8 := hv9.symm
  subst hv8
  go_upto_region 3 with fail
  obtain ⟨UU, E, hF1, hF2⟩ := cls w
  have HU := hid hF2
  have HU1 := hid hF1
  have y1 : ∀ u, (E u).cell? ⟨qb, ob + c, none⟩ = some (.float .f64 xc) := fun u => XC0.out _ (hF1 u)
  have DD0 := HU.out _ (Ab.refl w).drew
  clear hF1 hF2
  refine region_cls E (by kernel_rfl) (by kernel_rfl) DD0 ?_
  repeat (go_big_quiet_step (with_reducible rfl))
  refine wpQuiet_nil ?_
  intro v0 hwz
  obtain ⟨u0, hu⟩ := hwz
  have A0 : Hid (Ab w v0) := by rw [hu]; exact HU1.out u0
  clear hu u0
  clear HU HU1 DD0 y1
  clear E UU
  go_wp2
  go_loopw [7, 8, 35] (fun bv lv iv wr => ∃ k : Nat, k ≤ 4 ∧ iv = .int .i64 (k : Nat) ∧ bv = .int .i64 (dk (kB B) nb c k) ∧ lv = .float .f64 (lk B nb c k) ∧ Ab w wr) (fun _ _ iv _ => 4 - (intOf iv).toNat)
  case atStart => exact ⟨0, by omega, rfl, rfl, by rw [← XCC.out]; rfl, A0.out⟩
  case round =>
    obtain ⟨k, hk, rfl, rfl, rfl, ar⟩ := hrel
    have AR := hid ar
    clear ar
    by_cases hk4 : k < 4
    · have HK := hid hk4
      have kI : (k : Int) < 4 := by omega
      obtain ⟨cc, hcc⟩ : ∃ x, nb k = x := ⟨_, rfl⟩
      have ccl := NL.out k hk4
      rw [hcc] at ccl
      have HCC := hid hcc
      have CL := hid ccl
      have BB := hid (BS.out wr k AR.out hk4)
      rw [hcc] at BB
      obtain ⟨x, hx⟩ : ∃ x, B cc = x := ⟨_, rfl⟩
      have XC : Hid (∀ v, Ab w v → v.cell? ⟨qb, ob + cc, none⟩ = some (.float .f64 x)) := fun v a => by rw [← hx]; exact ((IB.out.below a).at0 ccl).2.2
      have xl : x < 18446744073709551616 := by rw [← hx]; exact (IB.out cc ccl).1
      have HX := hid hx
      have ccI : (cc : Int) < N := by omega
      have ccB : (cc : Int) ≤ 6144 := by have := HN.out; omega
      by_cases q0 : dk (kB B) nb c k < 0
      · obtain ⟨g1, g2⟩ := dk_no q0
        have el : lk B nb c k = xc := by unfold lk; rw [if_pos q0]; exact XCC.out
        have DN : Hid (dk (kB B) nb c (k + 1) = if kb x < kb xc then ((cc : Nat) : Int) else -1) := by
          show _ = _
          rw [g2, hcc]
          unfold kB
          rw [hx, XCC.out]
        rw [g1, el]
        have yl : xc < 18446744073709551616 := by rw [← XCC.out]; exact (IB.out c HC.out).1
        have CM := hid (fun v => compare19_at x xc v xl yl)
        have b0 : decide ((cc : Int) < -1) = false := decide_eq_false (by omega)
        clear hcc hx ccl xl yl q0 g1 g2 el hk hk4
        by_cases d1 : kb x < kb xc
        · have DQ : Hid (dk (kB B) nb c (k + 1) = ((cc : Nat) : Int)) := by show _ = _; rw [DN.out, if_pos d1]
          have LQ : Hid (lk B nb c (k + 1) = x) := by show _ = _; unfold lk; rw [DQ.out, if_neg (by omega), Int.toNat_natCast]; exact HX.out
          rw [cmp3_lt d1] at CM
          clear d1
          go_wp2_with fail
          refine BB.out.mono ?_
          rintro e9 v1 ⟨rfl, b1⟩
          have A1 : Hid (Ab w v1) := AR.out.trans b1
          clear b1
          have z1 := XC.out _ A1.out
          go_wp2_with fail
          refine (CM.out _).mono ?_
          rintro e9 v9 ⟨rfl, hv9⟩
          have hv8 := hv9.symm
          subst hv8
          clear z1
          go_upto_region 10 with fail
          obtain ⟨UU, E, hF1, hF2⟩ := cls v1
          have HU := hid hF2
          have HU1 := hid hF1
          have y1 : ∀ u, (E u).cell? ⟨qb, ob + cc, none⟩ = some (.float .f64 x) := fun u => XC.out _ (A1.out.trans (hF1 u))
          have DD0 := HU.out _ (Ab.refl v1).drew
          clear hF1 hF2
          refine region_cls E (by kernel_rfl) (by kernel_rfl) DD0 ?_
          repeat (go_big_quiet_step (with_reducible rfl))
          refine wpQuiet_nil ?_
          intro v2 hwz
          obtain ⟨u0, hu⟩ := hwz
          have A2 : Hid (Ab v1 v2) := by rw [hu]; exact HU1.out u0
          clear hu u0
          clear HU HU1 DD0 y1
          clear E UU
          go_wp2
          exact ⟨⟨k + 1, by have := HK.out; omega, by simp, by rw [DQ.out], by rw [LQ.out], A1.out.trans A2.out⟩, by have := HK.out; simp [intOf]; omega⟩
        · have DQ : Hid (dk (kB B) nb c (k + 1) = -1) := by show _ = _; rw [DN.out, if_neg d1]
          have LQ : Hid (lk B nb c (k + 1) = xc) := by show _ = _; unfold lk; rw [DQ.out, if_pos (by decide)]; exact XCC.out
          by_cases d2 : kb xc < kb x
          · rw [cmp3_gt d2] at CM
            clear d1 d2
            go_wp2_with fail
            refine BB.out.mono ?_
            rintro e9 v1 ⟨rfl, b1⟩
            have A1 : Hid (Ab w v1) := AR.out.trans b1
            clear b1
            have z1 := XC.out _ A1.out
            go_wp2_with fail
            refine (CM.out _).mono ?_
            rintro e9 v9 ⟨rfl, hv9⟩
            have hv8 := hv9.symm
            subst hv8
            clear z1
            go_wp2
            exact ⟨⟨k + 1, by have := HK.out; omega, by simp, by rw [DQ.out], by rw [LQ.out], A1.out⟩, by have := HK.out; simp [intOf]; omega⟩
          · rw [cmp3_eq (show kb x = kb xc by omega)] at CM
            clear d1 d2
            go_wp2_with fail
            refine BB.out.mono ?_
            rintro e9 v1 ⟨rfl, b1⟩
            have A1 : Hid (Ab w v1) := AR.out.trans b1
            clear b1
            have z1 := XC.out _ A1.out
            go_wp2_with fail
            refine (CM.out _).mono ?_
            rintro e9 v9 ⟨rfl, hv9⟩
            have hv8 := hv9.symm
            subst hv8
            clear z1
            go_wp2
            exact ⟨⟨k + 1, by have := HK.out; omega, by simp, by rw [DQ.out], by rw [LQ.out], A1.out⟩, by have := HK.out; simp [intOf]; omega⟩
      · obtain ⟨m, hm⟩ : ∃ m : Nat, dk (kB B) nb c k = (m : Nat) := ⟨(dk (kB B) nb c k).toNat, by omega⟩
        obtain ⟨⟨s, s1, s2⟩, -, g3⟩ := dk_yes hm
        have ml : m < N := by rw [← s2]; exact NL.out s (by omega)
        obtain ⟨y, hy⟩ : ∃ x, B m = x := ⟨_, rfl⟩
        have el : lk B nb c k = y := by unfold lk; rw [if_neg q0, hm, Int.toNat_natCast]; exact hy
        have LT : Hid (lt2 (kB B) cc m = (decide (kb x < kb y) || (decide (kb x = kb y) && decide (cc < m)))) := by show lt2 _ _ _ = _; unfold lt2 kB; rw [hx, hy]
        have DN : Hid (dk (kB B) nb c (k + 1) = if lt2 (kB B) cc m = true then ((cc : Nat) : Int) else ((m : Nat) : Int)) := by
          show _ = _
          rw [g3, hcc]
        have HY := hid hy
        rw [hm, el]
        have yl : y < 18446744073709551616 := by rw [← hy]; exact (IB.out m ml).1
        have CM := hid (fun v => compare19_at x y v xl yl)
        have mI : (m : Int) < N := by omega
        have mB : (m : Int) ≤ 6144 := by have := HN.out; omega
        have TK : Hid (lt2 (kB B) cc m = true → dk (kB B) nb c (k + 1) = ((cc : Nat) : Int) ∧ lk B nb c (k + 1) = x) := fun h => by
          have e : dk (kB B) nb c (k + 1) = ((cc : Nat) : Int) := by rw [DN.out, if_pos h]
          exact ⟨e, by unfold lk; rw [e, if_neg (by omega), Int.toNat_natCast]; exact HX.out⟩
        have LV : Hid (lt2 (kB B) cc m = false → dk (kB B) nb c (k + 1) = ((m : Nat) : Int) ∧ lk B nb c (k + 1) = y) := fun h => by
          have e : dk (kB B) nb c (k + 1) = ((m : Nat) : Int) := by rw [DN.out, if_neg (by rw [h]; decide)]
          exact ⟨e, by unfold lk; rw [e, if_neg (by omega), Int.toNat_natCast]; exact HY.out⟩
        clear hcc hx hy ccl xl yl q0 g3 el hk hk4 s1 s2 ml hm DN
        by_cases d1 : kb x < kb y
        · have DQ : Hid (dk (kB B) nb c (k + 1) = ((cc : Nat) : Int)) := (TK.out (LT.out.trans (by rw [decide_eq_true d1]; rfl))).1
          have LQ : Hid (lk B nb c (k + 1) = x) := (TK.out (LT.out.trans (by rw [decide_eq_true d1]; rfl))).2
          rw [cmp3_lt d1] at CM
          clear d1 LT TK LV
          go_wp2_with fail
          refine BB.out.mono ?_
          rintro e9 v1 ⟨rfl, b1⟩
          have A1 : Hid (Ab w v1) := AR.out.trans b1
          clear b1
          have z1 := XC.out _ A1.out
          go_wp2_with fail
          refine (CM.out _).mono ?_
          rintro e9 v9 ⟨rfl, hv9⟩
          have hv8 := hv9.symm
          subst hv8
          clear z1
          go_upto_region 10 with fail
          obtain ⟨UU, E, hF1, hF2⟩ := cls v1
          have HU := hid hF2
          have HU1 := hid hF1
          have y1 : ∀ u, (E u).cell? ⟨qb, ob + cc, none⟩ = some (.float .f64 x) := fun u => XC.out _ (A1.out.trans (hF1 u))
          have DD0 := HU.out _ (Ab.refl v1).drew
          clear hF1 hF2
          refine region_cls E (by kernel_rfl) (by kernel_rfl) DD0 ?_
          repeat (go_big_quiet_step (with_reducible rfl))
          refine wpQuiet_nil ?_
          intro v2 hwz
          obtain ⟨u0, hu⟩ := hwz
          have A2 : Hid (Ab v1 v2) := by rw [hu]; exact HU1.out u0
          clear hu u0
          clear HU HU1 DD0 y1
          clear E UU
          go_wp2
          exact ⟨⟨k + 1, by have := HK.out; omega, by simp, by rw [DQ.out], by rw [LQ.out], A1.out.trans A2.out⟩, by have := HK.out; simp [intOf]; omega⟩
        · by_cases d2 : kb y < kb x
          · have lf : lt2 (kB B) cc m = false := LT.out.trans (by rw [decide_eq_false d1, decide_eq_false (show ¬ kb x = kb y by omega)]; rfl)
            have DQ := hid (LV.out lf).1
            have LQ := hid (LV.out lf).2
            rw [cmp3_gt d2] at CM
            clear d1 d2 LT TK LV lf
            go_wp2_with fail
            refine BB.out.mono ?_
            rintro e9 v1 ⟨rfl, b1⟩
            have A1 : Hid (Ab w v1) := AR.out.trans b1
            clear b1
            have z1 := XC.out _ A1.out
            go_wp2_with fail
            refine (CM.out _).mono ?_
            rintro e9 v9 ⟨rfl, hv9⟩
            have hv8 := hv9.symm
            subst hv8
            clear z1
            go_wp2
            exact ⟨⟨k + 1, by have := HK.out; omega, by simp, by rw [DQ.out], by rw [LQ.out], A1.out⟩, by have := HK.out; simp [intOf]; omega⟩
          · have ke : kb x = kb y := by omega
            rw [cmp3_eq ke] at CM
            by_cases d3 : cc < m
            · have d4 : decide ((cc : Int) < (m : Int)) = true := decide_eq_true (by omega)
              have d5 : decide (cc < m) = true := decide_eq_true d3
              have lf : lt2 (kB B) cc m = true := LT.out.trans (by rw [d5, decide_eq_true ke, Bool.and_true, Bool.or_true])
              have DQ := hid (TK.out lf).1
              have LQ := hid (TK.out lf).2
              clear d1 d2 d3 LT TK LV lf ke
              go_wp2_with fail
              refine BB.out.mono ?_
              rintro e9 v1 ⟨rfl, b1⟩
              have A1 : Hid (Ab w v1) := AR.out.trans b1
              clear b1
              have z1 := XC.out _ A1.out
              go_wp2_with fail
              refine (CM.out _).mono ?_
              rintro e9 v9 ⟨rfl, hv9⟩
              have hv8 := hv9.symm
              subst hv8
              clear z1
              go_upto_region 10 with fail
              obtain ⟨UU, E, hF1, hF2⟩ := cls v1
              have HU := hid hF2
              have HU1 := hid hF1
              have y1 : ∀ u, (E u).cell? ⟨qb, ob + cc, none⟩ = some (.float .f64 x) := fun u => XC.out _ (A1.out.trans (hF1 u))
              have DD0 := HU.out _ (Ab.refl v1).drew
              clear hF1 hF2
              refine region_cls E (by kernel_rfl) (by kernel_rfl) DD0 ?_
              repeat (go_big_quiet_step (with_reducible rfl))
              refine wpQuiet_nil ?_
              intro v2 hwz
              obtain ⟨u0, hu⟩ := hwz
              have A2 : Hid (Ab v1 v2) := by rw [hu]; exact HU1.out u0
              clear hu u0
              clear HU HU1 DD0 y1
              clear E UU
              go_wp2
              exact ⟨⟨k + 1, by have := HK.out; omega, by simp, by rw [DQ.out], by rw [LQ.out], A1.out.trans A2.out⟩, by have := HK.out; simp [intOf]; omega⟩
            · have d4 : decide ((cc : Int) < (m : Int)) = false := decide_eq_false (by omega)
              have d5 : decide (cc < m) = false := decide_eq_false d3
              have lf : lt2 (kB B) cc m = false := LT.out.trans (by rw [d5, decide_eq_false d1]; simp)
              have DQ := hid (LV.out lf).1
              have LQ := hid (LV.out lf).2
              clear d1 d2 d3 LT TK LV lf ke
              go_wp2_with fail
              refine BB.out.mono ?_
              rintro e9 v1 ⟨rfl, b1⟩
              have A1 : Hid (Ab w v1) := AR.out.trans b1
              clear b1
              have z1 := XC.out _ A1.out
              go_wp2_with fail
              refine (CM.out _).mono ?_
              rintro e9 v9 ⟨rfl, hv9⟩
              have hv8 := hv9.symm
              subst hv8
              clear z1
              go_wp2
              exact ⟨⟨k + 1, by have := HK.out; omega, by simp, by rw [DQ.out], by rw [LQ.out], A1.out⟩, by have := HK.out; simp [intOf]; omega⟩
    · have k4 : k = 4 := by omega
      subst k4
      go_wp2
      go_ret
      exact ⟨rfl, AR.out⟩
/-- WHAT Down ANSWERS -/
theorem downC : DownC := fun n gb pb lb cb B cell w hn g ib hw => by
  by_cases hl : lb = 6 * n * n
  · by_cases hc : 0 ≤ cell ∧ cell < (lb : Nat)
    · obtain ⟨c, rfl⟩ : ∃ c : Nat, cell = (c : Nat) := ⟨cell.toNat, by omega⟩
      have hc2 : c < lb := by omega
      rw [if_pos ⟨hl, hc.1, by rw [← hl]; exact hc.2⟩, Int.toNat_natCast]
      obtain ⟨qb, ob, rfl⟩ := ib.some0 (show 0 < lb by omega)
      have nb : lb ≤ 6144 := by
        have h1 : n * n ≤ 32 * 32 := Nat.mul_le_mul hn.2 hn.2
        rw [hl, Nat.mul_assoc]
        omega
      have cc := gCells_at g
      rw [← hl] at cc
      exact down_go lb gb qb ob cb B (fun s => bsC n c s) c w nb hc2 ib cc (fun v s a hs => beside19_at n gb c s v hn (by omega) hs (g.to a)) (fun s hs => by rw [hl]; exact bsC_lt hn.1 (by omega) hs)
    · rw [if_neg (by rw [← hl]; exact fun h => hc h.2)]
      exact down_out n gb pb lb cb cell w g hl hc
  · rw [if_neg (fun h => hl h.1)]
    exact down_len n gb pb lb cb cell w g hl
end Rv
end Go.Proofs.YtbibhgikmnpbfaaGreatDoor
