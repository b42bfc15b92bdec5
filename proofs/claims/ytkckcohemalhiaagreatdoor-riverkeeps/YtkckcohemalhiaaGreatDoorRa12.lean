/-
  Some of the texts of this proof, one behind the other.
-/
import Derived.Test.YtkckcohemalhiaaGreatDoorRa11
namespace Go.Proofs.YtkckcohemalhiaaGreatDoor
open Go.RowKit Tf Cu Go.Deep
attribute [local go_sem] run_bits run_from raw_feq raw_fne raw_flt raw_fgt run_neg run_store_float
namespace Rv
/-- beds, waters and tracers of the test of life -/
def lvB (i : Nat) : Nat := if i = 0 then 4617315517961601024 else if i = 1 then 4616189618054758400 else if i = 2 then 4613937818241073152 else if i = 3 then 4611686018427387904 else if i = 4 then 4607182418800017408 else 0
def lvW (i : Nat) : Int := if i = 0 then 100 else 0
def lvT (i : Nat) : Int := if i = 0 then 10 else 0
def lvO (i : Nat) : Nat := if i = 0 then 4607182418800017408 else if i = 1 then 4613937818241073152 else if i = 2 then 4611686018427387904 else 4613937818241073152
theorem lv_fw : ∀ j : Nat, j < 6 → fw (5 - (j : Int)) = lvB j := by decide +kernel
theorem lvB_in (i : Nat) : lvB i < 18446744073709551616 := by
  unfold lvB
  repeat (first | split | omega)
theorem lv_ord : ordL (kB lvB) 6 = [0, 1, 2, 3, 4, 5] := by
  refine (ord_one ⟨?_, ?_⟩).symm
  · show List.Pairwise (fun a b => kB lvB b < kB lvB a ∨ (kB lvB a = kB lvB b ∧ a < b)) [0, 1, 2, 3, 4, 5]
    decide +kernel
  · exact List.Perm.refl _
theorem lv_ord2 : ordL (kB lvO) 4 = [1, 3, 2, 0] := by
  refine (ord_one ⟨?_, ?_⟩).symm
  · show List.Pairwise (fun a b => kB lvO b < kB lvO a ∨ (kB lvO a = kB lvO b ∧ a < b)) [1, 3, 2, 0]
    decide +kernel
  · decide
theorem lv_d0 : dnR 1 lvB 0 = 5 := by decide +kernel
theorem lv_d5 : dnR 1 lvB 5 = -1 := by decide +kernel
theorem lv_run : (runR 1 lvB lvW lvT).1 0 = 75 ∧ (runR 1 lvB lvW lvT).1 5 = 25 ∧ (runR 1 lvB lvW lvT).2 0 = 8 ∧ (runR 1 lvB lvW lvT).2 5 = 2 := by
  unfold runR
  rw [show 6 * 1 * 1 = 6 from rfl, lv_ord]
  decide +kernel
theorem lv_good : good19 1 6 6 6 12 lvW lvT := by
  refine ⟨⟨rfl, rfl, rfl, rfl⟩, ⟨fun c _ => ?_, by decide⟩, ⟨fun c _ => ?_, by decide⟩⟩
  · unfold lvW; split <;> omega
  · unfold lvT; split <;> omega
theorem row_ne {w : World} {a b m n : Nat} {s t : TypeId} {f g : Nat → Value} (h1 : w.rowIs a s m f) (h2 : w.rowIs b t n g) (hst : s ≠ t) : a ≠ b := fun e => by
  subst e
  obtain ⟨c, k1, -⟩ := h1
  obtain ⟨d, k2, -⟩ := h2
  rw [k1] at k2
  injection k2 with k3
  injection k3 with _ k4
  exact hst k4
theorem four_in19 (v : World) : Sh.IsI (v.alloc (.cells #[.int .i64 1, .int .i64 3, .int .i64 2, .int .i64 0] 3)) (some ⟨v.heap.size, 0, none⟩) 4 (fun j => ((([1, 3, 2, 0] : List Nat).getD j 0 : Nat) : Int)) := by
  have h := heap_alloc_new v (.cells #[.int .i64 1, .int .i64 3, .int .i64 2, .int .i64 0] 3)
  intro k hk
  match k, hk with
  | 0, _ => exact ⟨by decide, _, 0, rfl, lt_of_block h, cell_of_row _ _ 0 _ _ _ h⟩
  | 1, _ => exact ⟨by decide, _, 0, rfl, lt_of_block h, cell_of_row _ _ 1 _ _ _ h⟩
  | 2, _ => exact ⟨by decide, _, 0, rfl, lt_of_block h, cell_of_row _ _ 2 _ _ _ h⟩
  | 3, _ => exact ⟨by decide, _, 0, rfl, lt_of_block h, cell_of_row _ _ 3 _ _ _ h⟩
theorem four_fl19 (v : World) : IsFl (v.alloc (.cells #[.float .f64 4607182418800017408, .float .f64 4613937818241073152, .float .f64 4611686018427387904, .float .f64 4613937818241073152] 40)) (some ⟨v.heap.size, 0, none⟩) 4 lvO := by
  have h := heap_alloc_new v (.cells #[.float .f64 4607182418800017408, .float .f64 4613937818241073152, .float .f64 4611686018427387904, .float .f64 4613937818241073152] 40)
  intro k hk
  match k, hk with
  | 0, _ => exact ⟨by decide, _, 0, rfl, lt_of_block h, cell_of_row _ _ 0 _ _ _ h⟩
  | 1, _ => exact ⟨by decide, _, 0, rfl, lt_of_block h, cell_of_row _ _ 1 _ _ _ h⟩
  | 2, _ => exact ⟨by decide, _, 0, rfl, lt_of_block h, cell_of_row _ _ 2 _ _ _ h⟩
  | 3, _ => exact ⟨by decide, _, 0, rfl, lt_of_block h, cell_of_row _ _ 3 _ _ _ h⟩
theorem own_w19 {B n : Nat} {v : Value} {f : Nat → Int} {w : World} (h : Sh.Own B v ((List.range n).map f) w) (hf : ∀ c, c < n → Sh.W64 (f c)) : ∃ a0 cap, v = .slice a0 n cap ∧ Sh.IsI w a0 n f := by
  obtain ⟨a0, cap, e, i⟩ := Sh.Own.in h (fun x hx => by
    obtain ⟨j, hj, rfl⟩ := List.mem_map.1 hx
    exact hf j (List.mem_range.1 hj))
  rw [List.length_map, List.length_range] at e i
  exact ⟨a0, cap, e, i.congr (fun k hk => by simp [List.getD, hk])⟩
set_option maxRecDepth 100000 in
set_option maxHeartbeats 16000000 in
theorem lives19_at (DC : DownC) (OC : OrderC) (RC : RunC) (w : World) (hF : Fr w) : Calls Tryz.prog 8 #[] w fun e w' => e = .returned (.bool true) ∧ Below w.heap.size w w' := by
  have NW := hid (new_at 1 w (by omega) hF)
  have HD := hid DC
  have HO := hid OC
  have HR := hid RC
  clear hF DC OC RC
  go_enter Tryz.func8, Tryz.ntmps8
  go_wp2_with fail
  refine NW.out.mono ?_
  rintro e v1 ⟨gb, rfl, a1, -, g1⟩
  have AW1 : Hid (Ab w v1) := a1
  have G1 : Hid (GridOf 1 gb v1) := g1
  clear a1 g1 NW
  have LK := hid (lake19_at v1 G1.out)
  go_wp2_with fail
  refine LK.out.mono ?_
  rintro e v2 ⟨b1, b2, b3, b4, rfl, k2, r1, r2, r3, r4, nb⟩
  have AV : Hid (Ab v1 (v2.alloc (.cells #[.slice (some ⟨b1, 0, none⟩) 6 6, .slice (some ⟨b2, 0, none⟩) 6 6, .slice (some ⟨b3, 0, none⟩) 6 6, .slice (some ⟨b4, 0, none⟩) 12 12, .int .i64 0, .int .i64 0] 25))) := Ab.alloc (show Ab v1 v2 from k2) _
  have SR : Hid ((v2.alloc (.cells #[.slice (some ⟨b1, 0, none⟩) 6 6, .slice (some ⟨b2, 0, none⟩) 6 6, .slice (some ⟨b3, 0, none⟩) 6 6, .slice (some ⟨b4, 0, none⟩) 12 12, .int .i64 0, .int .i64 0] 25)).heap[v2.heap.size]? = some (.cells #[.slice (some ⟨b1, 0, none⟩) 6 6, .slice (some ⟨b2, 0, none⟩) 6 6, .slice (some ⟨b3, 0, none⟩) 6 6, .slice (some ⟨b4, 0, none⟩) 12 12, .int .i64 0, .int .i64 0] 25)) := heap_alloc_new _ _
  have R1 := hid (r1.alloc (.cells #[.slice (some ⟨b1, 0, none⟩) 6 6, .slice (some ⟨b2, 0, none⟩) 6 6, .slice (some ⟨b3, 0, none⟩) 6 6, .slice (some ⟨b4, 0, none⟩) 12 12, .int .i64 0, .int .i64 0] 25))
  have R2 := hid (r2.alloc (.cells #[.slice (some ⟨b1, 0, none⟩) 6 6, .slice (some ⟨b2, 0, none⟩) 6 6, .slice (some ⟨b3, 0, none⟩) 6 6, .slice (some ⟨b4, 0, none⟩) 12 12, .int .i64 0, .int .i64 0] 25))
  have R3 := hid (r3.alloc (.cells #[.slice (some ⟨b1, 0, none⟩) 6 6, .slice (some ⟨b2, 0, none⟩) 6 6, .slice (some ⟨b3, 0, none⟩) 6 6, .slice (some ⟨b4, 0, none⟩) 12 12, .int .i64 0, .int .i64 0] 25))
  have R4 := hid (r4.alloc (.cells #[.slice (some ⟨b1, 0, none⟩) 6 6, .slice (some ⟨b2, 0, none⟩) 6 6, .slice (some ⟨b3, 0, none⟩) 6 6, .slice (some ⟨b4, 0, none⟩) 12 12, .int .i64 0, .int .i64 0] 25))
  have NB : Hid (((v1.heap.size ≤ b1 ∧ v1.heap.size ≤ b2 ∧ v1.heap.size ≤ b3 ∧ v1.heap.size ≤ b4) ∧ b1 ≠ b2 ∧ b1 ≠ b4 ∧ b2 ≠ b4 ∧ b3 ≠ b4 ∧ b3 ≠ b2) ∧ v2.heap.size ≠ b1 ∧ v2.heap.size ≠ b2 ∧ v2.heap.size ≠ b3 ∧ b1 ≠ b3) := ⟨nb, by have := r1.lt; omega, by have := r2.lt; omega, by have := r3.lt; omega, row_ne r1 r3 (by decide)⟩
  clear k2 r1 r2 r3 r4 nb LK
  go_upto_region 5 with fail
  obtain ⟨gs, hgs⟩ : ∃ x, v2.heap.size = x := ⟨_, rfl⟩
  generalize hV : v2.alloc (.cells #[.slice (some ⟨b1, 0, none⟩) 6 6, .slice (some ⟨b2, 0, none⟩) 6 6, .slice (some ⟨b3, 0, none⟩) 6 6, .slice (some ⟨b4, 0, none⟩) 12 12, .int .i64 0, .int .i64 0] 25) = V at *
  rw [hgs] at SR NB
  rw [hgs]
  clear hV hgs
  have c0 := cell_of_row _ _ 0 _ _ _ SR.out
  go_wp2
  clear c0
  go_loopw [4] (fun iv wr => ∃ c : Nat, c ≤ 6 ∧ iv = .int .i64 (c : Nat) ∧ Ab v1 wr ∧ wr.heap[gs]? = some (.cells #[.slice (some ⟨b1, 0, none⟩) 6 6, .slice (some ⟨b2, 0, none⟩) 6 6, .slice (some ⟨b3, 0, none⟩) 6 6, .slice (some ⟨b4, 0, none⟩) 12 12, .int .i64 0, .int .i64 0] 25) ∧ wr.rowIs b1 40 6 (fun j => .float .f64 (if j < c then lvB j else 0)) ∧ wr.rowIs b2 2 6 (fun j => .int .i64 (if j < c then 0 else lkW j)) ∧ wr.rowIs b3 2 6 (fun _ => .int .i64 0) ∧ wr.rowIs b4 40 12 (fun _ => .float .f64 0)) (fun iv _ => 6 - (intOf iv).toNat)
  case atStart => exact ⟨0, by omega, rfl, AV.out, SR.out, R1.out.congr (fun i _ => by simp), R2.out.congr (fun i _ => by simp), R3.out, R4.out⟩
  case round =>
    obtain ⟨c, hc, rfl, ar, s0, s1, s2, s3, s4⟩ := hrel
    have AR := hid ar
    have S0 := hid s0
    have S1 := hid s1
    have S2 := hid s2
    have S3 := hid s3
    have S4 := hid s4
    clear ar s0 s1 s2 s3 s4 AV SR R1 R2 R3 R4
    by_cases hcn : c < 6
    · have HC := hid hcn
      have hcI : (c : Int) < 6 := by omega
      have c0 := cell_of_row _ _ 0 _ _ _ S0.out
      have z1 := S1.out.cell hcn
      have z2 := S1.out.frozen c
      obtain ⟨y1, hy1⟩ : ∃ y, Value.float .f64 (if c < c then lvB c else 0) = y := ⟨_, rfl⟩
      rw [hy1] at z1
      obtain ⟨x, hx⟩ : ∃ x, lvB c = x := ⟨_, rfl⟩
      have CV := fun (w : World) => run_convert_int_float (P := Tryz.prog) w 3 40 .i64 .f64 (5 - (c : Int)) (by kernel_rfl) (by kernel_rfl)
      have ef : floatOfInt .f64 (5 - (c : Int)) = x := by
        rw [← hx, ← lv_fw c hcn]
        exact ofInt_d _
      rw [ef] at CV
      have N1 : Hid (wr.setCell ⟨b1, c, none⟩ (.float .f64 x) |>.rowIs b2 2 6 (fun j => .int .i64 (if j < c then 0 else lkW j))) := S2.out.setOther (a := ⟨b1, c, none⟩) (Ne.symm NB.out.1.2.1) _
      have u1 := N1.out.cell hcn
      have u2 := N1.out.frozen c
      obtain ⟨y2, hy2⟩ : ∃ y, Value.int .i64 (if c < c then 0 else lkW c) = y := ⟨_, rfl⟩
      rw [hy2] at u1
      have N0 : Hid ((wr.setCell ⟨b1, c, none⟩ (.float .f64 x)).heap[gs]? = some (.cells #[.slice (some ⟨b1, 0, none⟩) 6 6, .slice (some ⟨b2, 0, none⟩) 6 6, .slice (some ⟨b3, 0, none⟩) 6 6, .slice (some ⟨b4, 0, none⟩) 12 12, .int .i64 0, .int .i64 0] 25)) := (Below.heap_setCell _ _ _ _ NB.out.2.1).trans S0.out
      have c1 := cell_of_row _ _ 1 _ _ _ N0.out
      have XE := hid hx
      clear hy1 hy2 hx ef hcn hc
      go_wp2
      refine ⟨⟨c + 1, by have := HC.out; omega, by simp, (AR.out.set NB.out.1.1.1 _).set NB.out.1.1.2.1 _, (Below.heap_setCell _ _ _ _ NB.out.2.2.1).trans N0.out, ((S1.out.set c _).setOther NB.out.1.2.1 _).congr (fun i _ => ?_), (N1.out.set c _).congr (fun i _ => ?_), (S3.out.setOther (a := ⟨b1, c, none⟩) (Ne.symm NB.out.2.2.2.2) _).setOther NB.out.1.2.2.2.2.2 _, (S4.out.setOther (a := ⟨b1, c, none⟩) (Ne.symm NB.out.1.2.2.1) _).setOther (Ne.symm NB.out.1.2.2.2.1) _⟩, by have := HC.out; simp [intOf]; omega⟩
      · by_cases e : i = c
        · subst e; simp [XE.out]
        · have q : (i < c + 1) ↔ i < c := by omega
          simp [e, q]
      · by_cases e : i = c
        · subst e; simp
        · have q : (i < c + 1) ↔ i < c := by omega
          simp [e, q]
    · obtain rfl : c = 6 := by omega
      have c1 := cell_of_row _ _ 1 _ _ _ S0.out
      have z1 := S2.out.cell (show 0 < 6 by omega)
      have z2 := S2.out.frozen 0
      obtain ⟨y1, hy1⟩ : ∃ y, Value.int .i64 (if 0 < 6 then 0 else lkW 0) = y := ⟨_, rfl⟩
      rw [hy1] at z1
      have M0 : Hid ((wr.setCell ⟨b2, 0, none⟩ (.int .i64 100)).heap[gs]? = some (.cells #[.slice (some ⟨b1, 0, none⟩) 6 6, .slice (some ⟨b2, 0, none⟩) 6 6, .slice (some ⟨b3, 0, none⟩) 6 6, .slice (some ⟨b4, 0, none⟩) 12 12, .int .i64 0, .int .i64 0] 25)) := (Below.heap_setCell _ _ _ _ NB.out.2.2.1).trans S0.out
      have M3 : Hid ((wr.setCell ⟨b2, 0, none⟩ (.int .i64 100)).rowIs b3 2 6 (fun _ => .int .i64 0)) := S3.out.setOther (a := ⟨b2, 0, none⟩) NB.out.1.2.2.2.2.2 _
      have c2 := cell_of_row _ _ 2 _ _ _ M0.out
      have u1 := M3.out.cell (show 0 < 6 by omega)
      have u2 := M3.out.frozen 0
      have T0 : Hid (((wr.setCell ⟨b2, 0, none⟩ (.int .i64 100)).setCell ⟨b3, 0, none⟩ (.int .i64 10)).heap[gs]? = some (.cells #[.slice (some ⟨b1, 0, none⟩) 6 6, .slice (some ⟨b2, 0, none⟩) 6 6, .slice (some ⟨b3, 0, none⟩) 6 6, .slice (some ⟨b4, 0, none⟩) 12 12, .int .i64 0, .int .i64 0] 25)) := (Below.heap_setCell _ _ _ _ NB.out.2.2.2.1).trans M0.out
      have T1 : Hid (((wr.setCell ⟨b2, 0, none⟩ (.int .i64 100)).setCell ⟨b3, 0, none⟩ (.int .i64 10)).rowIs b1 40 6 (fun j => .float .f64 (lvB j))) := ((S1.out.setOther (a := ⟨b2, 0, none⟩) NB.out.1.2.1 _).setOther NB.out.2.2.2.2 _).congr (fun i hi => by simp [hi])
      have T2 : Hid (((wr.setCell ⟨b2, 0, none⟩ (.int .i64 100)).setCell ⟨b3, 0, none⟩ (.int .i64 10)).rowIs b2 2 6 (fun j => .int .i64 (lvW j))) := ((S2.out.set 0 _).setOther (Ne.symm NB.out.1.2.2.2.2.2) _).congr (fun i hi => by unfold lvW; by_cases e : i = 0 <;> simp [e, hi])
      have T3 : Hid (((wr.setCell ⟨b2, 0, none⟩ (.int .i64 100)).setCell ⟨b3, 0, none⟩ (.int .i64 10)).rowIs b3 2 6 (fun j => .int .i64 (lvT j))) := (M3.out.set 0 _).congr (fun i hi => by unfold lvT; by_cases e : i = 0 <;> simp [e])
      have T4 : Hid (((wr.setCell ⟨b2, 0, none⟩ (.int .i64 100)).setCell ⟨b3, 0, none⟩ (.int .i64 10)).rowIs b4 40 12 (fun _ => .float .f64 0)) := (S4.out.setOther (a := ⟨b2, 0, none⟩) (Ne.symm NB.out.1.2.2.2.1) _).setOther (Ne.symm NB.out.1.2.2.2.2.1) _
      have AT : Hid (Ab v1 ((wr.setCell ⟨b2, 0, none⟩ (.int .i64 100)).setCell ⟨b3, 0, none⟩ (.int .i64 10))) := (AR.out.set NB.out.1.1.2.1 _).set NB.out.1.1.2.2.1 _
      clear hy1
      go_upto_region 14 with fail
      generalize hS : World.setCell (World.setCell wr _ _) _ _ = X at *
      clear hS c1 z1 z2 M0 M3 c2 u1 u2 S0 S1 S2 S3 S4 AR
      have x0 := cell_of_row _ _ 0 _ _ _ T0.out
      have x1 := cell_of_row _ _ 1 _ _ _ T0.out
      have x2 := cell_of_row _ _ 2 _ _ _ T0.out
      have x3 := cell_of_row _ _ 3 _ _ _ T0.out
      have x4 := cell_of_row _ _ 4 _ _ _ T0.out
      have x5 := cell_of_row _ _ 5 _ _ _ T0.out
      have IB := hid (show IsFl X (some ⟨b1, 0, none⟩) 6 lvB from fun k hk => ⟨lvB_in k, b1, 0, rfl, T1.out.lt, by rw [Nat.zero_add]; exact T1.out.cell hk⟩)
      have IW := hid (Sh.row_in T2.out (fun i hi => by unfold lvW; split <;> omega))
      have IT := hid (Sh.row_in T3.out (fun i hi => by unfold lvT; split <;> omega))
      have IS := hid (show IsFl X (some ⟨b4, 0, none⟩) 12 (fun _ => 0) from fun k hk => ⟨by show (0 : Nat) < _; decide, b4, 0, rfl, T4.out.lt, by rw [Nat.zero_add]; exact T4.out.cell hk⟩)
      have CR := hid ((HR.out 1 gb (some ⟨b1, 0, none⟩) 6 6 lvB (some ⟨b2, 0, none⟩) 6 6 lvW (some ⟨b3, 0, none⟩) 6 6 lvT (some ⟨b4, 0, none⟩) 12 12 (fun _ => 0) 0 0 X (by omega) (G1.out.to AT.out) IB.out IW.out IT.out IS.out).1 lv_good)
      go_wp2_with fail
      refine CR.out.mono ?_
      rintro e9 Y ⟨va, vb, rfl, by1, oa, ob, -⟩
      have kk := (runR_ok (B := lvB) (Nat.le_refl 1) lv_good).1
      obtain ⟨pa, ca, rfl, ia⟩ := own_w19 oa (fun c hc => by have := kk.1.b hc; unfold Sh.W64; omega)
      obtain ⟨pb, cb, rfl, ib⟩ := own_w19 ob (fun c hc => by have := kk.2.b hc; unfold Sh.W64; omega)
      obtain ⟨qa, ra, rfl⟩ := ia.some0 (by omega)
      obtain ⟨qb, rb, rfl⟩ := ib.some0 (by omega)
      have d1 := (ia.at0 (k := 0) (by omega)).2.2
      have d2 := (ia.at0 (k := 5) (by omega)).2.2
      have d3 := (ib.at0 (k := 0) (by omega)).2.2
      have d4 := (ib.at0 (k := 5) (by omega)).2.2
      rw [lv_run.1] at d1
      rw [lv_run.2.1] at d2
      rw [lv_run.2.2.1] at d3
      rw [lv_run.2.2.2] at d4
      rw [Nat.add_zero] at d1 d3
      have AY : Hid (Ab X Y) := by1
      have Y0 := hid (Ab.heap AY.out T0.out)
      have y0 := cell_of_row _ _ 0 _ _ _ Y0.out
      clear oa ob kk ia ib by1 CR x0 x1 x2 x3 x4 x5
      have D0 := hid (HD.out 1 gb (some ⟨b1, 0, none⟩) 6 6 lvB 0 Y (by omega) (G1.out.to (AT.out.trans AY.out)) (IB.out.below AY.out) (by unfold Sh.W64; omega))
      rw [show (if (6 : Nat) = 6 * 1 * 1 ∧ (0 : Int) ≤ 0 ∧ (0 : Int) < ((6 * 1 * 1 : Nat) : Int) then dnR 1 lvB (0 : Int).toNat else -1) = 5 from (if_pos (by decide)).trans lv_d0] at D0
      go_wp2_with fail
      refine D0.out.mono ?_
      rintro e9 Z ⟨rfl, b5⟩
      have AZ : Hid (Ab X Z) := AY.out.trans b5
      have Z0 := hid (Ab.heap AZ.out T0.out)
      clear b5 D0 d1 d2 d3 d4 y0
      have y0 := cell_of_row _ _ 0 _ _ _ Z0.out
      have D5 := hid (HD.out 1 gb (some ⟨b1, 0, none⟩) 6 6 lvB 5 Z (by omega) (G1.out.to (AT.out.trans AZ.out)) (IB.out.below AZ.out) (by unfold Sh.W64; omega))
      rw [show (if (6 : Nat) = 6 * 1 * 1 ∧ (0 : Int) ≤ 5 ∧ (5 : Int) < ((6 * 1 * 1 : Nat) : Int) then dnR 1 lvB (5 : Int).toNat else -1) = -1 from (if_pos (by decide)).trans lv_d5] at D5
      go_wp2_with fail
      refine D5.out.mono ?_
      rintro e9 Q ⟨rfl, b6⟩
      have AQ : Hid (Ab X Q) := AZ.out.trans b6
      clear b6 D5 y0
      have O4 := hid (HO.out (some ⟨Q.heap.size, 0, none⟩) 4 4 lvO (Q.alloc (.cells #[.float .f64 4607182418800017408, .float .f64 4613937818241073152, .float .f64 4611686018427387904, .float .f64 4613937818241073152] 40)) (by omega) (four_fl19 Q))
      rw [lv_ord2] at O4
      have AO : Hid (Ab X (Q.alloc (.cells #[.float .f64 4607182418800017408, .float .f64 4613937818241073152, .float .f64 4611686018427387904, .float .f64 4613937818241073152] 40))) := AQ.out.alloc _
      go_wp2_with fail
      refine O4.out.mono ?_
      rintro e9 P ⟨vo, rfl, b7, o7⟩
      obtain ⟨po, co, rfl, io⟩ := OwnN.in o7 (fun x hx => by simp at hx; omega)
      have AP : Hid (Ab X P) := AO.out.trans b7
      have HIO := hid io
      clear b7 o7 io O4
      have NU := hid (numbers19_at po (some ⟨P.heap.size, 0, none⟩) 4 co 4 _ (P.alloc (.cells #[.int .i64 1, .int .i64 3, .int .i64 2, .int .i64 0] 3)) (by omega) (HIO.out.below (bl1 _ _)) (four_in19 P))
      have AN : Hid (Ab X (P.alloc (.cells #[.int .i64 1, .int .i64 3, .int .i64 2, .int .i64 0] 3))) := AP.out.alloc _
      go_wp2_with fail
      refine NU.out.mono ?_
      rintro e9 U ⟨rfl, b8⟩
      have AU : Hid (Ab w U) := AW1.out.trans (AT.out.trans (AN.out.trans b8))
      clear b8
      go_wp2
      go_ret
      exact ⟨rfl, AU.out⟩
end Rv
end Go.Proofs.YtkckcohemalhiaaGreatDoor

namespace Go.Proofs.YtkckcohemalhiaaGreatDoor
open Go.RowKit Tf Cu Go.Deep
attribute [local go_sem] run_bits run_from raw_feq raw_fne raw_flt raw_fgt run_neg run_store_float
namespace Rv
set_option maxRecDepth 100000 in
set_option maxHeartbeats 16000000 in
theorem keeps19_no (side : Int) {pb : Option Addr} {lb cb : Nat} {pw : Option Addr} {lw cw : Nat} {pt : Option Addr} {lt ct : Nat} {ps : Option Addr} {ls cs : Nat} {sky st : Int} (w : World)
    (LV : Hid (∀ v, Ab w v → Calls Tryz.prog 8 #[] v fun e w' => e = .returned (.bool true) ∧ Below v.heap.size v w'))
    (NW : Hid (∀ v, Calls Tryz.prog 9 #[.int .i64 side] v fun e w' => e = .returned (.tuple #[.pointer none, .int .i64 10]) ∧ w' = v)) :
    Calls Tryz.prog 7 #[.int .i64 side, .agg #[.slice pb lb cb, .slice pw lw cw, .slice pt lt ct, .slice ps ls cs, .int .i64 sky, .int .i64 st]] w fun e w' => e = .returned (.bool true) ∧ Below w.heap.size w w' := by
  have A0 : Hid (Ab w (w.alloc (.cells #[.slice pb lb cb, .slice pw lw cw, .slice pt lt ct, .slice ps ls cs, .int .i64 sky, .int .i64 st] 25))) := bl1 _ _
  have R0 : Hid ((w.alloc (.cells #[.slice pb lb cb, .slice pw lw cw, .slice pt lt ct, .slice ps ls cs, .int .i64 sky, .int .i64 st] 25)).heap[w.heap.size]? = some (.cells #[.slice pb lb cb, .slice pw lw cw, .slice pt lt ct, .slice ps ls cs, .int .i64 sky, .int .i64 st] 25)) := heap_alloc_new _ _
  go_enter Tryz.func7, Tryz.ntmps7
  go_upto_region 1 with fail
  generalize hW : World.alloc w _ = W0 at *
  obtain ⟨gw, hgw⟩ : ∃ g, w.heap.size = g := ⟨_, rfl⟩
  rw [hgw] at R0 ⊢
  clear hgw hW
  go_wp2_with fail
  refine (LV.out _ A0.out).mono ?_
  rintro e9 v0 ⟨rfl, b0⟩
  have A1 : Hid (Ab w v0) := A0.out.trans b0
  have R1 := hid (Ab.heap b0 R0.out)
  clear b0 A0 R0
  go_wp2_with fail
  refine (NW.out _).mono ?_
  rintro e9 v9 ⟨rfl, hv9⟩
  have hv8 := hv9.symm
  subst hv8
  go_wp2
  go_ret
  exact ⟨rfl, A1.out⟩
set_option maxRecDepth 100000 in
set_option maxHeartbeats 16000000 in
theorem keeps19_long (n : Nat) (side : Int) {pb : Option Addr} {lb cb : Nat} {pw : Option Addr} {lw cw : Nat} {pt : Option Addr} {lt ct : Nat} {ps : Option Addr} {ls cs : Nat} {sky st : Int} (w : World)
    (LV : Hid (∀ v, Ab w v → Calls Tryz.prog 8 #[] v fun e w' => e = .returned (.bool true) ∧ Below v.heap.size v w'))
    (NW : Hid (∀ v, Ab w v → Calls Tryz.prog 9 #[.int .i64 side] v fun e w' => ∃ gb, e = .returned (.tuple #[.pointer (some ⟨gb, 0, none⟩), .int .i64 0]) ∧ Ab v w' ∧ GridOf n gb w'))
    (LG : Hid (∀ v, Calls Tryz.prog 20 #[.agg #[.slice pb lb cb, .slice pw lw cw, .slice pt lt ct, .slice ps ls cs, .int .i64 sky, .int .i64 st]] v fun e w' => e = .returned (.bool true) ∧ Below v.heap.size v w')) :
    Calls Tryz.prog 7 #[.int .i64 side, .agg #[.slice pb lb cb, .slice pw lw cw, .slice pt lt ct, .slice ps ls cs, .int .i64 sky, .int .i64 st]] w fun e w' => e = .returned (.bool true) ∧ Below w.heap.size w w' := by
  have A0 : Hid (Ab w (w.alloc (.cells #[.slice pb lb cb, .slice pw lw cw, .slice pt lt ct, .slice ps ls cs, .int .i64 sky, .int .i64 st] 25))) := bl1 _ _
  have R0 : Hid ((w.alloc (.cells #[.slice pb lb cb, .slice pw lw cw, .slice pt lt ct, .slice ps ls cs, .int .i64 sky, .int .i64 st] 25)).heap[w.heap.size]? = some (.cells #[.slice pb lb cb, .slice pw lw cw, .slice pt lt ct, .slice ps ls cs, .int .i64 sky, .int .i64 st] 25)) := heap_alloc_new _ _
  go_enter Tryz.func7, Tryz.ntmps7
  go_upto_region 1 with fail
  generalize hW : World.alloc w _ = W0 at *
  obtain ⟨gw, hgw⟩ : ∃ g, w.heap.size = g := ⟨_, rfl⟩
  rw [hgw] at R0 ⊢
  clear hgw hW
  go_wp2_with fail
  refine (LV.out _ A0.out).mono ?_
  rintro e9 v0 ⟨rfl, b0⟩
  have A1 : Hid (Ab w v0) := A0.out.trans b0
  have R1 := hid (Ab.heap b0 R0.out)
  clear b0 A0 R0
  go_wp2_with fail
  refine (NW.out v0 A1.out).mono ?_
  rintro e9 v1 ⟨gb, rfl, a1, g1⟩
  have A2 : Hid (Ab w v1) := A1.out.trans a1
  have R2 := hid (Ab.heap a1 R1.out)
  have G1 := hid g1
  clear a1 g1 A1 R1
  have c0 := cell_of_row _ _ 0 _ _ _ R2.out
  have c1 := cell_of_row _ _ 1 _ _ _ R2.out
  have c2 := cell_of_row _ _ 2 _ _ _ R2.out
  have c3 := cell_of_row _ _ 3 _ _ _ R2.out
  have c4 := cell_of_row _ _ 4 _ _ _ R2.out
  have c5 := cell_of_row _ _ 5 _ _ _ R2.out
  go_wp2_with fail
  refine (LG.out _).mono ?_
  rintro e9 v3 ⟨rfl, k1⟩
  have A3 : Hid (Ab w v3) := A2.out.call k1
  have S3 := hid (Ab.heap k1 R2.out)
  have G3 := hid (G1.out.to k1)
  clear k1 A2 R2 G1 c0 c1 c2 c3 c4 c5 LG
  go_wp2
  go_ret
  exact ⟨rfl, A3.out⟩
set_option maxRecDepth 100000 in
set_option maxHeartbeats 64000000 in
theorem keeps19_go (n : Nat) (side : Int) {pb : Option Addr} {lb cb : Nat} {pw : Option Addr} {lw cw : Nat} {pt : Option Addr} {lt ct : Nat} {ps : Option Addr} {ls cs : Nat} {sky st : Int} (B : Nat → Nat) (Wt Tr : Nat → Int) (Sp : Nat → Nat) (l1 l2 l3 : List Int) (er : Int) (w : World) (HL : Hid (lb ≤ 65536 ∧ lw ≤ 65536 ∧ lt ≤ 65536 ∧ ls ≤ 65536))
    (H0 : Hid ((l1.length ≤ 65536 ∧ ∀ x ∈ l1, -9223372036854775808 ≤ x ∧ x ≤ 9223372036854775807) ∧ (l2.length ≤ 65536 ∧ ∀ x ∈ l2, -9223372036854775808 ≤ x ∧ x ≤ 9223372036854775807) ∧ l3.length ≤ 65536 ∧ ∀ x ∈ l3, -9223372036854775808 ≤ x ∧ x ≤ 9223372036854775807))
    (LV : Hid (∀ v, Ab w v → Calls Tryz.prog 8 #[] v fun e w' => e = .returned (.bool true) ∧ Below v.heap.size v w'))
    (NW : Hid (∀ v, Ab w v → Calls Tryz.prog 9 #[.int .i64 side] v fun e w' => ∃ gb, e = .returned (.tuple #[.pointer (some ⟨gb, 0, none⟩), .int .i64 0]) ∧ Ab v w' ∧ GridOf n gb w'))
    (LG : Hid (∀ v, Calls Tryz.prog 20 #[.agg #[.slice pb lb cb, .slice pw lw cw, .slice pt lt ct, .slice ps ls cs, .int .i64 sky, .int .i64 st]] v fun e w' => e = .returned (.bool false) ∧ Below v.heap.size v w'))
    (RN : Hid (∀ gb tb tw tt ts v, Ab w v → GridOf n gb v → IsFl v (some ⟨tb, 0, none⟩) lb B → IsIn v (some ⟨tw, 0, none⟩) lw Wt → IsIn v (some ⟨tt, 0, none⟩) lt Tr → IsFl v (some ⟨ts, 0, none⟩) ls Sp → Calls Tryz.prog 10 #[.pointer (some ⟨gb, 0, none⟩), .agg #[.slice (some ⟨tb, 0, none⟩) lb (lb + 9), .slice (some ⟨tw, 0, none⟩) lw (lw + 9), .slice (some ⟨tt, 0, none⟩) lt (lt + 9), .slice (some ⟨ts, 0, none⟩) ls (ls + 9), .int .i64 sky, .int .i64 st]] v fun e w' => ∃ u1 u2, e = .returned (.tuple #[u1, u2, .int .i64 er]) ∧ Below v.heap.size v w' ∧ OT 2 v.heap.size u1 l1 w' ∧ OT 2 v.heap.size u2 l2 w' ∧ ∀ k, u1.ownBlock = some k → u2.ownBlock ≠ some k))
    (OR : Hid (∀ tb v, Ab w v → IsFl v (some ⟨tb, 0, none⟩) lb B → Calls Tryz.prog 16 #[.slice (some ⟨tb, 0, none⟩) lb (lb + 9)] v fun e w' => ∃ u, e = .returned u ∧ Below v.heap.size v w' ∧ OT 3 v.heap.size u l3 w'))
    (DW : Hid (∀ gb tb v, Ab w v → GridOf n gb v → IsFl v (some ⟨tb, 0, none⟩) lb B → Calls Tryz.prog 12 #[.pointer (some ⟨gb, 0, none⟩), .slice (some ⟨tb, 0, none⟩) lb (lb + 9), .int .i64 0] v fun e w' => ∃ d, e = .returned (.int .i64 d) ∧ Below v.heap.size v w'))
    (IB : Hid (IsFl w pb lb B)) (IW : Hid (IsIn w pw lw Wt)) (IT : Hid (IsIn w pt lt Tr)) (IS : Hid (IsFl w ps ls Sp)) :
    Calls Tryz.prog 7 #[.int .i64 side, .agg #[.slice pb lb cb, .slice pw lw cw, .slice pt lt ct, .slice ps ls cs, .int .i64 sky, .int .i64 st]] w fun e w' => e = .returned (.bool true) ∧ Below w.heap.size w w' := by
  have ere : (er != er) = false := by simp
  have A0 : Hid (Ab w (w.alloc (.cells #[.slice pb lb cb, .slice pw lw cw, .slice pt lt ct, .slice ps ls cs, .int .i64 sky, .int .i64 st] 25))) := bl1 _ _
  have R0 : Hid ((w.alloc (.cells #[.slice pb lb cb, .slice pw lw cw, .slice pt lt ct, .slice ps ls cs, .int .i64 sky, .int .i64 st] 25)).heap[w.heap.size]? = some (.cells #[.slice pb lb cb, .slice pw lw cw, .slice pt lt ct, .slice ps ls cs, .int .i64 sky, .int .i64 st] 25)) := heap_alloc_new _ _
  go_enter Tryz.func7, Tryz.ntmps7
  go_upto_region 1 with fail
  generalize hW : World.alloc w _ = W0 at *
  obtain ⟨gw, hgw⟩ : ∃ g, w.heap.size = g := ⟨_, rfl⟩
  rw [hgw] at R0 ⊢
  clear hgw hW
  go_wp2_with fail
  refine (LV.out _ A0.out).mono ?_
  rintro e9 v0 ⟨rfl, b0⟩
  have A1 : Hid (Ab w v0) := A0.out.trans b0
  have R1 := hid (Ab.heap b0 R0.out)
  clear b0 A0 R0
  go_wp2_with fail
  refine (NW.out v0 A1.out).mono ?_
  rintro e9 v1 ⟨gb, rfl, a1, g1⟩
  have A2 : Hid (Ab w v1) := A1.out.trans a1
  have R2 := hid (Ab.heap a1 R1.out)
  have G1 := hid g1
  clear a1 g1 A1 R1
  have c0 := cell_of_row _ _ 0 _ _ _ R2.out
  have c1 := cell_of_row _ _ 1 _ _ _ R2.out
  have c2 := cell_of_row _ _ 2 _ _ _ R2.out
  have c3 := cell_of_row _ _ 3 _ _ _ R2.out
  have c4 := cell_of_row _ _ 4 _ _ _ R2.out
  have c5 := cell_of_row _ _ 5 _ _ _ R2.out
  go_wp2_with fail
  refine (LG.out _).mono ?_
  rintro e9 v3 ⟨rfl, k1⟩
  have A3 : Hid (Ab w v3) := A2.out.call k1
  have S3 := hid (Ab.heap k1 R2.out)
  have G3 := hid (G1.out.to k1)
  clear k1 A2 R2 G1 c0 c1 c2 c3 c4 c5 LG
  have c0 := cell_of_row _ _ 0 _ _ _ S3.out
  have c1 := cell_of_row _ _ 1 _ _ _ S3.out
  have c2 := cell_of_row _ _ 2 _ _ _ S3.out
  have c3 := cell_of_row _ _ 3 _ _ _ S3.out
  have c4 := cell_of_row _ _ 4 _ _ _ S3.out
  have c5 := cell_of_row _ _ 5 _ _ _ S3.out
  go_wp2_with fail
  refine (copied19_at pb pw pt ps lb cb lw cw lt ct ls cs B Wt Tr Sp sky st v3 (IB.out.below A3.out) (IW.out.below A3.out) (IT.out.below A3.out) (IS.out.below A3.out) HL.out).mono ?_
  rintro e9 v4 ⟨tb, tw, tt, ts, rfl, b4, rb, rw_, rt, rs, -⟩
  have X4 : Hid (Ab v3 (v4.alloc (.cells #[.slice (some ⟨tb, 0, none⟩) lb (lb + 9), .slice (some ⟨tw, 0, none⟩) lw (lw + 9), .slice (some ⟨tt, 0, none⟩) lt (lt + 9), .slice (some ⟨ts, 0, none⟩) ls (ls + 9), .int .i64 sky, .int .i64 st] 25))) := Ab.alloc (show Ab v3 v4 from b4) _
  have T4 : Hid ((v4.alloc (.cells #[.slice (some ⟨tb, 0, none⟩) lb (lb + 9), .slice (some ⟨tw, 0, none⟩) lw (lw + 9), .slice (some ⟨tt, 0, none⟩) lt (lt + 9), .slice (some ⟨ts, 0, none⟩) ls (ls + 9), .int .i64 sky, .int .i64 st] 25)).heap[v4.heap.size]? = some (.cells #[.slice (some ⟨tb, 0, none⟩) lb (lb + 9), .slice (some ⟨tw, 0, none⟩) lw (lw + 9), .slice (some ⟨tt, 0, none⟩) lt (lt + 9), .slice (some ⟨ts, 0, none⟩) ls (ls + 9), .int .i64 sky, .int .i64 st] 25)) := heap_alloc_new _ _
  have RB := hid (rb.alloc (.cells #[.slice (some ⟨tb, 0, none⟩) lb (lb + 9), .slice (some ⟨tw, 0, none⟩) lw (lw + 9), .slice (some ⟨tt, 0, none⟩) lt (lt + 9), .slice (some ⟨ts, 0, none⟩) ls (ls + 9), .int .i64 sky, .int .i64 st] 25))
  have RW := hid (rw_.alloc (.cells #[.slice (some ⟨tb, 0, none⟩) lb (lb + 9), .slice (some ⟨tw, 0, none⟩) lw (lw + 9), .slice (some ⟨tt, 0, none⟩) lt (lt + 9), .slice (some ⟨ts, 0, none⟩) ls (ls + 9), .int .i64 sky, .int .i64 st] 25))
  have RT := hid (rt.alloc (.cells #[.slice (some ⟨tb, 0, none⟩) lb (lb + 9), .slice (some ⟨tw, 0, none⟩) lw (lw + 9), .slice (some ⟨tt, 0, none⟩) lt (lt + 9), .slice (some ⟨ts, 0, none⟩) ls (ls + 9), .int .i64 sky, .int .i64 st] 25))
  have RS := hid (rs.alloc (.cells #[.slice (some ⟨tb, 0, none⟩) lb (lb + 9), .slice (some ⟨tw, 0, none⟩) lw (lw + 9), .slice (some ⟨tt, 0, none⟩) lt (lt + 9), .slice (some ⟨ts, 0, none⟩) ls (ls + 9), .int .i64 sky, .int .i64 st] 25))
  clear b4 rb rw_ rt rs c0 c1 c2 c3 c4 c5
  go_upto_region 7 with fail
  generalize hV : World.alloc v4 _ = V4 at *
  obtain ⟨gt, hgt⟩ : ∃ g, v4.heap.size = g := ⟨_, rfl⟩
  rw [hgt] at T4 ⊢
  clear hgt hV
  have W4 : Hid (Ab w V4) := A3.out.trans X4.out
  have S4 := hid (Ab.heap X4.out S3.out)
  have G4 := hid (G3.out.to X4.out)
  clear X4 A3 S3 G3
  have TB : Hid (∀ v, Ab V4 v → IsFl v (some ⟨tb, 0, none⟩) lb B) := fun v hv => mk_fl (rowIs.ab RB.out hv) (fun k hk => (IB.out k hk).1)
  have TW : Hid (∀ v, Ab V4 v → IsIn v (some ⟨tw, 0, none⟩) lw Wt) := fun v hv => mk_in (rowIs.ab RW.out hv) (fun k hk => (IW.out k hk).1)
  have TT : Hid (∀ v, Ab V4 v → IsIn v (some ⟨tt, 0, none⟩) lt Tr) := fun v hv => mk_in (rowIs.ab RT.out hv) (fun k hk => (IT.out k hk).1)
  have TS : Hid (∀ v, Ab V4 v → IsFl v (some ⟨ts, 0, none⟩) ls Sp) := fun v hv => mk_fl (rowIs.ab RS.out hv) (fun k hk => (IS.out k hk).1)
  have t0 := cell_of_row _ _ 0 _ _ _ T4.out
  have t1 := cell_of_row _ _ 1 _ _ _ T4.out
  have t2 := cell_of_row _ _ 2 _ _ _ T4.out
  have t3 := cell_of_row _ _ 3 _ _ _ T4.out
  have t4 := cell_of_row _ _ 4 _ _ _ T4.out
  have t5 := cell_of_row _ _ 5 _ _ _ T4.out
  go_wp2_with fail
  refine (RN.out gb tb tw tt ts V4 W4.out G4.out (TB.out _ (Ab.refl _)) (TW.out _ (Ab.refl _)) (TT.out _ (Ab.refl _)) (TS.out _ (Ab.refl _))).mono ?_
  rintro e9 v5 ⟨u1, u2, rfl, b5, oa, ob, oab⟩
  obtain ⟨pa, ca, rfl, ia⟩ := oa.isI H0.out.1.2
  obtain ⟨pq, cq, rfl, iq⟩ := ob.isI H0.out.2.1.2
  have A5 : Hid (Ab V4 v5) := b5
  have OA := hid oa
  have OB := hid ob
  have DAB := hid oab
  have IA := hid ia
  have IQ := hid iq
  clear b5 oa ob oab ia iq t0 t1 t2 t3 t4 t5
  have t0 := cell_of_row _ _ 0 _ _ _ (A5.out.heap T4.out)
  have t1 := cell_of_row _ _ 1 _ _ _ (A5.out.heap T4.out)
  have t2 := cell_of_row _ _ 2 _ _ _ (A5.out.heap T4.out)
  have t3 := cell_of_row _ _ 3 _ _ _ (A5.out.heap T4.out)
  have t4 := cell_of_row _ _ 4 _ _ _ (A5.out.heap T4.out)
  have t5 := cell_of_row _ _ 5 _ _ _ (A5.out.heap T4.out)
  go_wp2_with fail
  refine (RN.out gb tb tw tt ts v5 (W4.out.trans A5.out) (G4.out.to A5.out) (TB.out _ A5.out) (TW.out _ A5.out) (TT.out _ A5.out) (TS.out _ A5.out)).mono ?_
  rintro e9 v6 ⟨u3, u4, rfl, b6, oc, od, -⟩
  obtain ⟨pc, cc, rfl, ic⟩ := oc.isI H0.out.1.2
  obtain ⟨pd, cd, rfl, id⟩ := od.isI H0.out.2.1.2
  have B56 : Hid (Ab v5 v6) := b6
  have A6 : Hid (Ab V4 v6) := A5.out.call b6
  have OC := hid oc
  have OD := hid od
  have IC := hid ic
  have ID := hid id
  clear b6 oc od ic id t0 t1 t2 t3 t4 t5
  have t0 := cell_of_row _ _ 0 _ _ _ (A6.out.heap T4.out)
  have t1 := cell_of_row _ _ 1 _ _ _ (A6.out.heap T4.out)
  have t2 := cell_of_row _ _ 2 _ _ _ (A6.out.heap T4.out)
  have t3 := cell_of_row _ _ 3 _ _ _ (A6.out.heap T4.out)
  have t4 := cell_of_row _ _ 4 _ _ _ (A6.out.heap T4.out)
  have t5 := cell_of_row _ _ 5 _ _ _ (A6.out.heap T4.out)
  go_wp2_with fail
  refine (OR.out tb v6 (W4.out.trans A6.out) (TB.out _ A6.out)).mono ?_
  rintro e9 v7 ⟨u5, rfl, b7, oo⟩
  obtain ⟨po, co, rfl, io⟩ := oo.isI H0.out.2.2.2
  have B67 : Hid (Ab v6 v7) := b7
  have A7 : Hid (Ab V4 v7) := A6.out.call b7
  have OO := hid oo
  have IO_ := hid io
  clear b7 oo io t0 t1 t2 t3 t4 t5
  have t0 := cell_of_row _ _ 0 _ _ _ (A7.out.heap T4.out)
  have t1 := cell_of_row _ _ 1 _ _ _ (A7.out.heap T4.out)
  have t2 := cell_of_row _ _ 2 _ _ _ (A7.out.heap T4.out)
  have t3 := cell_of_row _ _ 3 _ _ _ (A7.out.heap T4.out)
  have t4 := cell_of_row _ _ 4 _ _ _ (A7.out.heap T4.out)
  have t5 := cell_of_row _ _ 5 _ _ _ (A7.out.heap T4.out)
  go_wp2_with fail
  refine (OR.out tb v7 (W4.out.trans A7.out) (TB.out _ A7.out)).mono ?_
  rintro e9 v8 ⟨u6, rfl, b8, oz⟩
  obtain ⟨pz, cz, rfl, iz⟩ := oz.isI H0.out.2.2.2
  have B78 : Hid (Ab v7 v8) := b8
  have A8 : Hid (Ab V4 v8) := A7.out.call b8
  have OZ := hid oz
  have IZ := hid iz
  clear b8 oz iz t0 t1 t2 t3 t4 t5
  have t0 := cell_of_row _ _ 0 _ _ _ (A8.out.heap T4.out)
  have t1 := cell_of_row _ _ 1 _ _ _ (A8.out.heap T4.out)
  have t2 := cell_of_row _ _ 2 _ _ _ (A8.out.heap T4.out)
  have t3 := cell_of_row _ _ 3 _ _ _ (A8.out.heap T4.out)
  have t4 := cell_of_row _ _ 4 _ _ _ (A8.out.heap T4.out)
  have t5 := cell_of_row _ _ 5 _ _ _ (A8.out.heap T4.out)
  go_wp2_with fail
  refine (DW.out gb tb v8 (W4.out.trans A8.out) (G4.out.to A8.out) (TB.out _ A8.out)).mono ?_
  rintro e9 v9 ⟨dq, rfl, b9⟩
  have B89 : Hid (Ab v8 v9) := b9
  have A9 : Hid (Ab V4 v9) := A8.out.call b9
  clear b9 t0 t1 t2 t3 t4 t5
  have IA9 := hid ((IA.out.below B56.out).below (B67.out.trans (B78.out.trans B89.out)))
  have IC9 := hid (IC.out.below (B67.out.trans (B78.out.trans B89.out)))
  have IQ9 := hid ((IQ.out.below B56.out).below (B67.out.trans (B78.out.trans B89.out)))
  have ID9 := hid (ID.out.below (B67.out.trans (B78.out.trans B89.out)))
  have IO9 := hid (IO_.out.below (B78.out.trans B89.out))
  have IZ9 := hid (IZ.out.below B89.out)
  go_wp2_with fail
  refine (ints19_at pa pc l1.length ca cc _ v9 (by have := H0.out.1.1; omega) IA9.out IC9.out).mono ?_
  rintro e9 x1 ⟨rfl, k1⟩
  have X1 : Hid (Ab v9 x1) := k1
  clear k1
  go_wp2_with fail
  refine (ints19_at pq pd l2.length cq cd _ x1 (by have := H0.out.2.1.1; omega) (IQ9.out.below X1.out) (ID9.out.below X1.out)).mono ?_
  rintro e9 x2 ⟨rfl, k2⟩
  have X2 : Hid (Ab v9 x2) := X1.out.call k2
  clear k2 X1
  have t0 := cell_of_row _ _ 0 _ _ _ ((A9.out.trans X2.out).heap T4.out)
  have t1 := cell_of_row _ _ 1 _ _ _ ((A9.out.trans X2.out).heap T4.out)
  have t2 := cell_of_row _ _ 2 _ _ _ ((A9.out.trans X2.out).heap T4.out)
  have t3 := cell_of_row _ _ 3 _ _ _ ((A9.out.trans X2.out).heap T4.out)
  have t4 := cell_of_row _ _ 4 _ _ _ ((A9.out.trans X2.out).heap T4.out)
  have t5 := cell_of_row _ _ 5 _ _ _ ((A9.out.trans X2.out).heap T4.out)
  have c0 := cell_of_row _ _ 0 _ _ _ ((A9.out.trans X2.out).heap S4.out)
  have c1 := cell_of_row _ _ 1 _ _ _ ((A9.out.trans X2.out).heap S4.out)
  have c2 := cell_of_row _ _ 2 _ _ _ ((A9.out.trans X2.out).heap S4.out)
  have c3 := cell_of_row _ _ 3 _ _ _ ((A9.out.trans X2.out).heap S4.out)
  have c4 := cell_of_row _ _ 4 _ _ _ ((A9.out.trans X2.out).heap S4.out)
  have c5 := cell_of_row _ _ 5 _ _ _ ((A9.out.trans X2.out).heap S4.out)
  have AX2 : Hid (Ab V4 x2) := A9.out.trans X2.out
  go_wp2_with fail
  refine (still19_at tb tw tt ts pb pw pt ps lb cb lw cw lt ct ls cs sky st x2 (rowIs.ab RB.out AX2.out) (rowIs.ab RW.out AX2.out) (rowIs.ab RT.out AX2.out) (rowIs.ab RS.out AX2.out) HL.out (IB.out.below (W4.out.trans AX2.out)) (IW.out.below (W4.out.trans AX2.out)) (IT.out.below (W4.out.trans AX2.out)) (IS.out.below (W4.out.trans AX2.out))).mono ?_
  rintro e9 x3 ⟨rfl, k3⟩
  have X3 : Hid (Ab v9 x3) := X2.out.call k3
  clear k3 X2 AX2 t0 t1 t2 t3 t4 t5 c0 c1 c2 c3 c4 c5
  go_wp2_with fail
  refine (numbers19_at po pz l3.length co cz _ x3 (by have := H0.out.2.2.1; omega) (IO9.out.below X3.out) (IZ9.out.below X3.out)).mono ?_
  rintro e9 x4 ⟨rfl, k4⟩
  have X4 : Hid (Ab v9 x4) := X3.out.call k4
  clear k4 X3
  go_wp2_with (first
    | (at_builtin; have q9 := Iv.out; refine wpList_copyN rfl (.tmp 96) (.tmp 97) rfl wv.heap.size wv.heap.size rfl (OT.new wv wv.heap.size (Nat.le_refl _)) pz l3.length _ (fun j => l3.getD j 0) rfl ((IZ9.out.below (X4.out.trans (Au.out.trans Av.out))).below (bl1 wv (.cells #[] 3))) (by have := H0.out; omega) (by simp) ?_; intro gx cx wx ix bx lx; have Ix := hid ix; have Lx := hid lx; have Ax : Hid (Ab wv wx) := Below.trans (bl1 wv (.cells #[] 3)) bx; clear ix bx lx)
    | (at_builtin; have q9 := Iu.out; refine Sh.wpList_copy rfl (.tmp 93) (.tmp 94) rfl wu.heap.size wu.heap.size rfl (Sh.own_new wu wu.heap.size (Nat.le_refl _)) pd l2.length _ (fun j => l2.getD j 0) rfl ((ID9.out.below (X4.out.trans Au.out)).below (bl1 wu (.cells #[] 2))) (by have := H0.out; omega) (by simp) ?_; intro gv cv wv iv bv lv; have Iv := hid iv; have Lv := hid lv; have Av : Hid (Ab wu wv) := Below.trans (bl1 wu (.cells #[] 2)) bv; clear iv bv lv)
    | (at_builtin; refine Sh.wpList_copy rfl (.tmp 90) (.tmp 91) rfl x4.heap.size x4.heap.size rfl (Sh.own_new x4 x4.heap.size (Nat.le_refl _)) pc l1.length _ (fun j => l1.getD j 0) rfl ((IC9.out.below X4.out).below (bl1 x4 (.cells #[] 2))) (by have := H0.out; omega) (by simp) ?_; intro gu cu wu iu bu lu; have Iu := hid iu; have Lu := hid lu; have Au : Hid (Ab x4 wu) := Below.trans (bl1 x4 (.cells #[] 2)) bu; clear iu bu lu))
  have AV : Hid (Ab v9 wx) := X4.out.trans (Au.out.trans (Av.out.trans Ax.out))
  have KV : Hid (OT 2 V4.heap.size (.slice pa l1.length ca) l1 wx ∧ OT 2 V4.heap.size (.slice pq l2.length cq) l2 wx ∧ OT 3 V4.heap.size (.slice po l3.length co) l3 wx) :=
    ⟨OA.out.to (B56.out.trans (B67.out.trans (B78.out.trans (B89.out.trans AV.out)))), OB.out.to (B56.out.trans (B67.out.trans (B78.out.trans (B89.out.trans AV.out)))), (OO.out.to (B78.out.trans (B89.out.trans AV.out))).mono A6.out.size⟩
  have IC1 := hid (IC9.out.below AV.out)
  have ID1 := hid (ID9.out.below AV.out)
  have IZ1 := hid (IZ9.out.below AV.out)
  have IU1 := hid (Iu.out.below (Av.out.trans Ax.out))
  have IV1 := hid (Iv.out.below Ax.out)
  have A4X : Hid (Ab V4 wx) := A9.out.trans AV.out
  obtain ⟨P, hP⟩ : ∃ P : Nat → Prop, P = fun k => (Value.slice pa l1.length ca).ownBlock = some k ∨ (Value.slice pq l2.length cq).ownBlock = some k ∨ (Value.slice po l3.length co).ownBlock = some k := ⟨_, rfl⟩
  have PR : Hid (∀ k, P k → (V4.heap.size ≤ k ∧ k < v5.heap.size) ∨ (v6.heap.size ≤ k ∧ k < v7.heap.size)) := fun k hk => by
    rw [hP] at hk
    rcases hk with h | h | h
    · exact .inl (OA.out.blk h)
    · exact .inl (OB.out.blk h)
    · exact .inr (OO.out.blk h)
  have K0 : Hid (K19 wx V4.heap.size P l1 l2 l3 (.slice pa l1.length ca) (.slice pq l2.length cq) (.slice po l3.length co) wx) := by
    refine ⟨AbQ.refl _ _, KV.out.1, KV.out.2.1, KV.out.2.2, ⟨DAB.out, fun k hk hz => ?_, fun k hk hz => ?_⟩, fun k hk => .inl (by rw [hP]; exact .inl hk), fun k hk => .inl (by rw [hP]; exact .inr (.inl hk)), fun k hk => .inl (by rw [hP]; exact .inr (.inr hk))⟩
    · have h1 := (OA.out.blk hk).2
      have h2 := (OO.out.blk hz).1
      have h3 := B56.out.size
      omega
    · have h1 := (OB.out.blk hk).2
      have h2 := (OO.out.blk hz).1
      have h3 := B56.out.size
      omega
  have NP : Hid ((∀ b o, pc = some ⟨b, o, none⟩ → ¬ P b) ∧ (∀ b o, pd = some ⟨b, o, none⟩ → ¬ P b) ∧ (∀ b o, pz = some ⟨b, o, none⟩ → ¬ P b) ∧ ¬ P gu ∧ ¬ P gv ∧ ¬ P gx ∧ ∀ k, k < V4.heap.size → ¬ P k) := by
    have s1 := B56.out.size
    have s2 := B67.out.size
    have s3 := B78.out.size
    have s4 := B89.out.size
    have s5 := X4.out.size
    have s6 := Au.out.size
    have s7 := Av.out.size
    have s8 := Lu.out
    have s9 := Lv.out
    have s10 := Lx.out
    have s11 := A5.out.size
    refine ⟨fun b o e hb => ?_, fun b o e hb => ?_, fun b o e hb => ?_, fun hb => ?_, fun hb => ?_, fun hb => ?_, fun k hk hb => ?_⟩
    · subst e
      have h := OC.out.blk (k := b) rfl
      rcases PR.out b hb with q | q <;> omega
    · subst e
      have h := OD.out.blk (k := b) rfl
      rcases PR.out b hb with q | q <;> omega
    · subst e
      have h := OZ.out.blk (k := b) rfl
      rcases PR.out b hb with q | q <;> omega
    · rcases PR.out gu hb with q | q <;> omega
    · rcases PR.out gv hb with q | q <;> omega
    · rcases PR.out gx hb with q | q <;> omega
    · rcases PR.out k hb with q | q <;> omega
  have T9 := hid (A4X.out.heap T4.out)
  have S9 := hid (A4X.out.heap S4.out)
  have GT : Hid (¬ P gt ∧ ¬ P gw ∧ ¬ P tb) := by
    refine ⟨NP.out.2.2.2.2.2.2 _ (lt_of_get T4.out), NP.out.2.2.2.2.2.2 _ (lt_of_get S4.out), NP.out.2.2.2.2.2.2 _ RB.out.lt⟩
  have TBX := hid (TB.out _ A4X.out)
  have IBX := hid (IB.out.below (W4.out.trans A4X.out))
  have PB : Hid (∀ b o, pb = some ⟨b, o, none⟩ → 0 < lb → ¬ P b) := fun b o e hl => by
    obtain ⟨-, b2, o2, e2, l2, -⟩ := IB.out 0 hl
    rw [e] at e2
    have e3 : b = b2 := by injection e2 with e2; injection e2
    subst e3
    exact NP.out.2.2.2.2.2.2 _ (Nat.lt_of_lt_of_le l2 W4.out.size)
  have WX : Hid (Ab w V4) := hid W4.out
  obtain ⟨n1, hn1⟩ : ∃ x, l1.length = x := ⟨_, rfl⟩
  obtain ⟨n2, hn2⟩ : ∃ x, l2.length = x := ⟨_, rfl⟩
  obtain ⟨n3, hn3⟩ : ∃ x, l3.length = x := ⟨_, rfl⟩
  have HB : Hid (n1 ≤ 65536 ∧ n2 ≤ 65536 ∧ n3 ≤ 65536) := by have := H0.out; exact ⟨by omega, by omega, by omega⟩
  have N1 := hid hn1
  have N2 := hid hn2
  have N3 := hid hn3
  rw [hn1, hn2, hn3] at K0
  rw [hn1] at IC1 IU1
  rw [hn2] at ID1 IV1
  rw [hn3] at IZ1 Ix
  rw [hn1, hn2, hn3]
  clear hn1 hn2 hn3 KV hP PR OA OB OO OC OD OZ IA IQ IC ID IO_ IZ IA9 IC9 IQ9 ID9 IO9 IZ9 Iu Iv Au Av Ax X4 B56 B67 B78 B89 A5 A6 A7 A8 A9 AV Lu Lv Lx DAB T4 S4 G4 RB RW RT RS TB TW TT TS RN OR DW LV NW IB IW IT IS W4
  go_upto_region 18 with fail
  go_wp2
  go_loopw [19] (fun iv wr => ∃ (c : Nat) (la lb_ lo : List Int), c ≤ n1 ∧ iv = .int .i64 (c : Nat) ∧ (la.length = n1 ∧ lb_.length = n2 ∧ lo.length = n3) ∧ (∀ i, i < c → la.getD i 0 = 77) ∧ K19 wx V4.heap.size P la lb_ lo (.slice pa n1 ca) (.slice pq n2 cq) (.slice po n3 co) wr) (fun iv _ => n1 - (intOf iv).toNat)
  case atStart => exact ⟨0, l1, l2, l3, by omega, rfl, ⟨N1.out, N2.out, N3.out⟩, fun i hi => absurd hi (Nat.not_lt_zero i), K0.out⟩
  case round =>
    obtain ⟨c, la, lb_, lo, hc, rfl, hlen, hq, hk⟩ := hrel
    have KQ := hid hk
    have HE := hid hlen
    have HQ := hid hq
    clear hq
    clear hk hlen K0
    by_cases hcN : c < n1
    · have HC := hid hcN
      have hcI : (c : Int) < n1 := by omega
      have hcB : (c : Int) ≤ 65536 := by have := HB.out; omega
      obtain ⟨g, cap, y, ev, ey, xc, xf, hs⟩ := KQ.out.set_a (c := c) (by have := HE.out; omega)
      rw [HE.out.1] at ev
      injection ev with ev1 ev2 ev3
      subst ev1 ev3
      have HS := hid (hs 77)
      clear hs ey hcN hc
      go_wp2
      exact ⟨⟨c + 1, (la.set c 77), lb_, lo, by have := HC.out; omega, by simp, by have := HE.out; simpa using this, fun i hi => (by
          by_cases e : i = c
          · subst e; have := HE.out; simp [List.getD, show i < la.length by have := HC.out; omega]
          · have h2 := HQ.out i (by omega); simp only [List.getD] at h2 ⊢; rw [List.getElem?_set_ne (fun h => e h.symm)]; exact h2), HS.out⟩, by have := HC.out; simp [intOf]; omega⟩
    · have e6 : n1 = c := by omega
      have E6 := hid e6
      have hcI : ¬ ((c : Int) < (n1 : Int)) := by omega
      clear hcN hc e6
      have KP := hid KQ.out
      have HP : Hid (∀ i, i < n1 → la.getD i 0 = 77) := fun i hi => HQ.out i (by have := E6.out; omega)
      have HE1 := hid HE.out
      go_upto_region 22 with fail
      go_wp2
      go_loopw [20] (fun iv wr => ∃ (c : Nat) (la lb_ lo : List Int), c ≤ n2 ∧ iv = .int .i64 (c : Nat) ∧ (la.length = n1 ∧ lb_.length = n2 ∧ lo.length = n3) ∧ (∀ i, i < n1 → la.getD i 0 = 77) ∧ K19 wx V4.heap.size P la lb_ lo (.slice pa n1 ca) (.slice pq n2 cq) (.slice po n3 co) wr) (fun iv _ => n2 - (intOf iv).toNat)
      case atStart => exact ⟨0, la, lb_, lo, by omega, rfl, HE1.out, HP.out, KP.out⟩
      case round =>
        obtain ⟨c, la, lb_, lo, hc, rfl, hlen, hq, hk⟩ := hrel
        have KQ := hid hk
        have HE := hid hlen
        have HQ := hid hq
        clear hq
        clear hk hlen KP HP
        by_cases hcN : c < n2
        · have HC := hid hcN
          have hcI : (c : Int) < n2 := by omega
          have hcB : (c : Int) ≤ 65536 := by have := HB.out; omega
          obtain ⟨g, cap, y, ev, ey, xc, xf, hs⟩ := KQ.out.set_b (c := c) (by have := HE.out; omega)
          rw [HE.out.2.1] at ev
          injection ev with ev1 ev2 ev3
          subst ev1 ev3
          have HS := hid (hs 79)
          clear hs ey hcN hc
          go_wp2
          exact ⟨⟨c + 1, la, (lb_.set c 79), lo, by have := HC.out; omega, by simp, by have := HE.out; simpa using this, HQ.out, HS.out⟩, by have := HC.out; simp [intOf]; omega⟩
        · have e6 : n2 = c := by omega
          have E6 := hid e6
          have hcI : ¬ ((c : Int) < (n2 : Int)) := by omega
          clear hcN hc e6
          have KP := hid KQ.out
          have HP := hid HQ.out
          have HE1 := hid HE.out
          go_upto_region 26 with fail
          go_wp2
          go_loopw [21] (fun iv wr => ∃ (c : Nat) (la lb_ lo : List Int), c ≤ n3 ∧ iv = .int .i64 (c : Nat) ∧ (la.length = n1 ∧ lb_.length = n2 ∧ lo.length = n3) ∧ (∀ i, i < n1 → la.getD i 0 = 77) ∧ K19 wx V4.heap.size P la lb_ lo (.slice pa n1 ca) (.slice pq n2 cq) (.slice po n3 co) wr) (fun iv _ => n3 - (intOf iv).toNat)
          case atStart => exact ⟨0, la, lb_, lo, by omega, rfl, HE1.out, HP.out, KP.out⟩
          case round =>
            obtain ⟨c, la, lb_, lo, hc, rfl, hlen, hq, hk⟩ := hrel
            have KQ := hid hk
            have HE := hid hlen
            have HQ := hid hq
            clear hq
            clear hk hlen KP HP
            by_cases hcN : c < n3
            · have HC := hid hcN
              have hcI : (c : Int) < n3 := by omega
              have hcB : (c : Int) ≤ 65536 := by have := HB.out; omega
              obtain ⟨g, cap, y, ev, ey, xc, xf, hs⟩ := KQ.out.set_o (c := c) (by have := HE.out; omega)
              rw [HE.out.2.2] at ev
              injection ev with ev1 ev2 ev3
              subst ev1 ev3
              have HS := hid (hs 77)
              clear hs ey hcN hc
              go_wp2
              exact ⟨⟨c + 1, la, lb_, (lo.set c 77), by have := HC.out; omega, by simp, by have := HE.out; simpa using this, HQ.out, HS.out⟩, by have := HC.out; simp [intOf]; omega⟩
            · have e6 : n3 = c := by omega
              have E6 := hid e6
              have hcI : ¬ ((c : Int) < (n3 : Int)) := by omega
              clear hcN hc e6
              have KP := hid KQ.out
              have HP := hid HQ.out
              have HE1 := hid HE.out
              have WR0 := hid (Ab.refl wr)
              go_upto_region 30 with fail
              go_wp2
              go_loopw [22] (fun iv wq => ∃ c : Nat, c ≤ n1 ∧ iv = .int .i64 (c : Nat) ∧ wq = wr) (fun iv _ => n1 - (intOf iv).toNat)
              case atStart => exact ⟨0, by omega, rfl, rfl⟩
              case round =>
                obtain ⟨c, hc, rfl, hwq⟩ := hrel
                have hw2 := hwq.symm
                subst hw2
                by_cases hcN : c < n1
                · have HC := hid hcN
                  have hcI : (c : Int) < n1 := by omega
                  have hcB : (c : Int) ≤ 65536 := by have := HB.out; omega
                  obtain ⟨g, cap, y, ev, ey, xc, xf, hs⟩ := KP.out.set_a (c := c) (by have := HE1.out; omega)
                  rw [HE1.out.1] at ev
                  injection ev with ev1 ev2 ev3
                  subst ev1 ev3
                  have y77 : y = 77 := ey.trans (HP.out c hcN)
                  subst y77
                  clear hs ey hcN hc xf
                  go_wp2
                  exact ⟨⟨c + 1, by have := HC.out; omega, by simp, by first | trivial | rfl⟩, by have := HC.out; simp [intOf]; omega⟩
                · have e6 : n1 = c := by omega
                  have E6 := hid e6
                  have hcI : ¬ ((c : Int) < (n1 : Int)) := by omega
                  clear hcN hc e6
                  go_upto_region 35 with fail
                  go_wp2
                  go_loopw [8, 9, 14, 23] (fun av bv ov iv wq => ∃ (k : Nat) (la lb_ lo : List Int), k ≤ 16 ∧ iv = .int .i64 (k : Nat) ∧ (la.length = n1 + k ∧ lb_.length = n2 + k ∧ lo.length = n3 + k) ∧ K19 wx V4.heap.size P la lb_ lo av bv ov wq) (fun _ _ _ iv _ => 16 - (intOf iv).toNat)
                  case atStart => exact ⟨0, la, lb_, lo, by omega, rfl, HE1.out, KP.out⟩
                  case round =>
                    obtain ⟨k, la, lb_, lo, hk, rfl, hlen, hkq⟩ := hrel
                    have KQ := hid hkq
                    have HK := hid hlen
                    clear hkq hlen KP HP HE1
                    by_cases hk16 : k < 16
                    · have hkI : (k : Int) < 16 := by omega
                      have hkB : (0 : Int) ≤ (k : Int) := by omega
                      have HK2 := hid hk16
                      have News : Hid (∀ (v : World) (T : TypeId) (j : Nat) (u : Value), (([78] : List Int).map (Value.int .i64))[j]? = some u → (v.alloc (.cells #[.int .i64 78] T)).cell? ((⟨v.heap.size, 0, none⟩ : Addr).add j) = some u) := fun v T => World.news_of_block (cs := #[.int .i64 78]) (t := T) (fr := (0, 0)) (heap_alloc_new v _)
                      have SZ : Hid (∀ (v : World) (O : Obj), (v.alloc O).heap.size = v.heap.size + 1) := fun v O => by show (v.heap.push O).size = _; simp
                      clear hk16
                      go_wp2_with (first
                        | (at_builtin; have q9 := Kb.out; refine wpList_appN rfl (.tmp 147) (.tmp 148) rfl V4.heap.size _ lo rfl (Kb.out.2.2.2.1.to (bl1 wb (.cells #[.int .i64 78] 3))) ⟨wb.heap.size, 0, none⟩ 1 1 [78] rfl rfl (News.out wb 3) (by decide) (by have := HK.out; have := HK2.out; have := HB.out; omega) (by have h1 := Kb.out.1.2.2.2.1; have h2 := A4X.out.size; have h3 := SZ.out wb (.cells #[.int .i64 78] 3); omega) (lo.length + 1) rfl ?_; intro go co wo oo xo yo _; have Ko := hid (K19.app_o Kb.out oo xo yo); clear oo xo yo)
                        | (at_builtin; have q9 := Ka.out; refine wpList_app19 rfl (.tmp 144) (.tmp 145) rfl V4.heap.size _ lb_ rfl (Ka.out.2.2.1.to (bl1 wa (.cells #[.int .i64 78] 2))) ⟨wa.heap.size, 0, none⟩ 1 1 [78] rfl rfl (News.out wa 2) (by decide) (by have := HK.out; have := HK2.out; have := HB.out; omega) (by have h1 := Ka.out.1.2.2.2.1; have h2 := A4X.out.size; have h3 := SZ.out wa (.cells #[.int .i64 78] 2); omega) (lb_.length + 1) rfl ?_; intro gb cb wb ob xb yb _; have Kb := hid (K19.app_b Ka.out ob xb yb); clear ob xb yb)
                        | (at_builtin; refine wpList_app19 rfl (.tmp 141) (.tmp 142) rfl V4.heap.size _ la rfl (KQ.out.2.1.to (bl1 wr (.cells #[.int .i64 78] 2))) ⟨wr.heap.size, 0, none⟩ 1 1 [78] rfl rfl (News.out wr 2) (by decide) (by have := HK.out; have := HK2.out; have := HB.out; omega) (by have h1 := KQ.out.1.2.2.2.1; have h2 := A4X.out.size; have h3 := SZ.out wr (.cells #[.int .i64 78] 2); omega) (la.length + 1) rfl ?_; intro ga ca wa oa xa ya _; have Ka := hid (K19.app_a KQ.out oa xa ya); clear oa xa ya))
                      exact ⟨⟨k + 1, la ++ [78], lb_ ++ [78], lo ++ [78], by have := HK2.out; omega, by simp, by have := HK.out; simp; omega, Ko.out⟩, by have := HK2.out; simp [intOf]; omega⟩
                    · have e6 : k = 16 := by omega
                      subst e6
                      have QA := hid KQ.out.1
                      have I1 := hid (QA.out.isI IC1.out NP.out.1)
                      have I2 := hid (QA.out.isI IU1.out (fun b o e => by injection e with e; injection e with e; subst e; exact NP.out.2.2.2.1))
                      have I3 := hid (QA.out.isI ID1.out NP.out.2.1)
                      have I4 := hid (QA.out.isI IV1.out (fun b o e => by injection e with e; injection e with e; subst e; exact NP.out.2.2.2.2.1))
                      have I5 := hid (QA.out.isI IZ1.out NP.out.2.2.1)
                      have I6 := hid (QA.out.isI Ix.out (fun b o e => by injection e with e; injection e with e; subst e; exact NP.out.2.2.2.2.2.1))
                      have F1 := hid (QA.out.isFl TBX.out (fun b o e => by injection e with e; injection e with e; subst e; exact GT.out.2.2))
                      have F2 : Hid (IsFl wr pb lb B) := fun k hk => by
                        obtain ⟨h1, b, o, h2, h3, h4⟩ := IBX.out k hk
                        exact ⟨h1, b, o, h2, Nat.lt_of_lt_of_le h3 QA.out.2.2.2.1, (World.cell?_of_block (QA.out.2.2.2.2 b h3 (PB.out b o h2 (by omega)))).trans h4⟩
                      have T10 := hid (QA.out.heap T9.out GT.out.1)
                      have S10 := hid (QA.out.heap S9.out GT.out.2.1)
                      have AE : Hid (Ab w wr) := WX.out.trans (QA.out.ab A4X.out NP.out.2.2.2.2.2.2)
                      clear KQ
                      go_wp2_with fail
                      refine (ints19_at pc (some ⟨gu, 0, none⟩) n1 cc cu _ wr (by have := HB.out; omega) I1.out I2.out).mono ?_
                      rintro e9 z1 ⟨rfl, k1⟩
                      have Z1 : Hid (Ab wr z1) := k1
                      clear k1
                      go_wp2_with fail
                      refine (ints19_at pd (some ⟨gv, 0, none⟩) n2 cd cv _ z1 (by have := HB.out; omega) (I3.out.below Z1.out) (I4.out.below Z1.out)).mono ?_
                      rintro e9 z2 ⟨rfl, k2⟩
                      have Z2 : Hid (Ab wr z2) := Z1.out.call k2
                      clear k2
                      go_wp2_with fail
                      refine (numbers19_at pz (some ⟨gx, 0, none⟩) n3 cz cx _ z2 (by have := HB.out; omega) (I5.out.below Z2.out) (I6.out.below Z2.out)).mono ?_
                      rintro e9 z3 ⟨rfl, k3⟩
                      have Z3 : Hid (Ab wr z3) := Z2.out.call k3
                      clear k3
                      have t0 := cell_of_row _ _ 0 _ _ _ (Z3.out.heap T10.out)
                      have s0 := cell_of_row _ _ 0 _ _ _ (Z3.out.heap S10.out)
                      go_wp2_with fail
                      refine (all12_at (some ⟨tb, 0, none⟩) pb lb (lb + 9) cb B z3 (by have := HL.out; omega) (F1.out.below Z3.out) (F2.out.below Z3.out)).mono ?_
                      rintro e9 z4 ⟨rfl, k4⟩
                      have Z4 : Hid (Ab wr z4) := Z3.out.call k4
                      clear k4
                      go_wp2
                      go_ret
                      exact ⟨rfl, AE.out.trans Z4.out⟩
end Rv
end Go.Proofs.YtkckcohemalhiaaGreatDoor
