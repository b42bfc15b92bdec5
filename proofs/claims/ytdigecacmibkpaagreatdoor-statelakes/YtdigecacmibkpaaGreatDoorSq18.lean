/-
  Some of the texts of this proof, one behind the other.
-/
import Derived.Deep.QuietTactic
import Derived.Test.YtdigecacmibkpaaGreatDoorSq17
set_option maxRecDepth 100000
set_option maxHeartbeats 400000000
namespace Go.Proofs.YtdigecacmibkpaaGreatDoor
open Go.RowKit Tf Cu Go.Deep
attribute [local go_sem] run_bits run_from raw_feq raw_fne raw_flt raw_fgt run_neg run_store_float
namespace Ss
open Rv (lt_of_get)
theorem nothing_at (w : World) : Calls Tryz.prog 28 #[] w fun e w' => ∃ b1 b2 b3 b4, e = .returned (.agg #[.slice (some ⟨b1, 0, none⟩) 6 6, .slice (some ⟨b2, 0, none⟩) 6 6, .slice (some ⟨b3, 0, none⟩) 6 6, .slice (some ⟨b4, 0, none⟩) 12 12, .int .i64 0, .int .i64 0]) /\ Below w.heap.size w w' /\ w'.rowIs b1 22 6 (fun _ => .float .f64 0) /\ w'.rowIs b2 2 6 (fun _ => .int .i64 0) /\ w'.rowIs b3 2 6 (fun _ => .int .i64 0) /\ w'.rowIs b4 22 12 (fun _ => .float .f64 0) /\ (w.heap.size <= b1 /\ w.heap.size <= b2 /\ w.heap.size <= b3 /\ w.heap.size <= b4 /\ b1 ≠ b2 /\ b1 ≠ b3 /\ b1 ≠ b4 /\ b2 ≠ b3 /\ b2 ≠ b4 /\ b3 ≠ b4) := by
  have M1 : ∀ v : World, (Instr.makeSlice 30 (.int .i64 6) (.int .i64 6)).run Tryz.prog v = .ok (.slice (some ⟨v.heap.size, 0, none⟩) 6 6) (v.alloc (Obj.cells (madeCells #[.float .f64 0] 6) 22)) := fun v => by
    exact run_make_row' (P := Tryz.prog) 30 22 (.float .f64 0) 8 Tryz.underlying30 infoF64 rfl .i64 .i64 6 (by omega) (by omega) v
  have M2 : ∀ v : World, (Instr.makeSlice 31 (.int .i64 6) (.int .i64 6)).run Tryz.prog v = .ok (.slice (some ⟨v.heap.size, 0, none⟩) 6 6) (v.alloc (Obj.cells (madeCells #[.int .i64 0] 6) 2)) := fun v => by
    exact run_make_row' (P := Tryz.prog) 31 2 (.int .i64 0) 8 Tryz.underlying31 info64 rfl .i64 .i64 6 (by omega) (by omega) v
  have M3 : ∀ v : World, (Instr.makeSlice 30 (.int .i64 12) (.int .i64 12)).run Tryz.prog v = .ok (.slice (some ⟨v.heap.size, 0, none⟩) 12 12) (v.alloc (Obj.cells (madeCells #[.float .f64 0] 12) 22)) := fun v => by
    exact run_make_row' (P := Tryz.prog) 30 22 (.float .f64 0) 8 Tryz.underlying30 infoF64 rfl .i64 .i64 12 (by omega) (by omega) v
  have A0 : Hid (Ab w (w.alloc (.cells #[.slice none 0 0, .slice none 0 0, .slice none 0 0, .slice none 0 0, .int .i64 0, .int .i64 0] 33))) := bl1 _ _
  have R0 : Hid ((w.alloc (.cells #[.slice none 0 0, .slice none 0 0, .slice none 0 0, .slice none 0 0, .int .i64 0, .int .i64 0] 33)).heap[w.heap.size]? = some (.cells #[.slice none 0 0, .slice none 0 0, .slice none 0 0, .slice none 0 0, .int .i64 0, .int .i64 0] 33)) := heap_alloc_new _ _
  go_enter Tryz.func28, Tryz.ntmps28
  go_upto_region 1 with fail
  generalize hW : World.alloc w _ = W at *
  obtain ⟨g4, hg4⟩ : ∃ x, w.heap.size = x := ⟨_, rfl⟩
  have HG := hid hg4
  rw [hg4] at R0 ⊢
  clear hW hg4
  obtain ⟨UU, E, hF1, hF2⟩ := cls W.drew
  have HU := hid hF2
  clear hF1 hF2
  refine region_free 5 (fun k => if k = 0 then some ((Obj.cells (madeCells #[.float .f64 0] 6) 22), fun b => .slice (some ⟨b, 0, none⟩) 6 6) else if k = 1 then some ((Obj.cells (madeCells #[.int .i64 0] 6) 2), fun b => .slice (some ⟨b, 0, none⟩) 6 6) else if k = 2 then some ((Obj.cells (madeCells #[.int .i64 0] 6) 2), fun b => .slice (some ⟨b, 0, none⟩) 6 6) else if k = 3 then some ((Obj.cells (madeCells #[.float .f64 0] 12) 22), fun b => .slice (some ⟨b, 0, none⟩) 12 12) else none) (by kernel_rfl) (by kernel_rfl) (by kernel_rfl) ?_
  simp only [List.take_succ_cons, List.take_zero]
  refine wpFree_lay (ob := (Obj.cells (madeCells #[.float .f64 0] 6) 22)) (mk := fun b => .slice (some ⟨b, 0, none⟩) 6 6) (by rfl) (by kernel_rfl) ?_ ?_
  · refine lay_make (vx := .int .i64 6) (vy := .int .i64 6) (ob := (Obj.cells (madeCells #[.float .f64 0] 6) 22)) (mk := fun b => .slice (some ⟨b, 0, none⟩) 6 6) rfl ?_ ?_ ?_
    · rfl
    · rfl
    · exact M1
  intro b1 fb1
  simp only [Act.put, List.setIfInBounds_toArray, List.set_cons_succ, List.set_cons_zero]
  refine wpFree_lay (ob := (Obj.cells (madeCells #[.int .i64 0] 6) 2)) (mk := fun b => .slice (some ⟨b, 0, none⟩) 6 6) (by rfl) (by kernel_rfl) ?_ ?_
  · refine lay_make (vx := .int .i64 6) (vy := .int .i64 6) (ob := (Obj.cells (madeCells #[.int .i64 0] 6) 2)) (mk := fun b => .slice (some ⟨b, 0, none⟩) 6 6) rfl ?_ ?_ ?_
    · rfl
    · rfl
    · exact M2
  intro b2 fb2
  simp only [Act.put, List.setIfInBounds_toArray, List.set_cons_succ, List.set_cons_zero]
  refine wpFree_lay (ob := (Obj.cells (madeCells #[.int .i64 0] 6) 2)) (mk := fun b => .slice (some ⟨b, 0, none⟩) 6 6) (by rfl) (by kernel_rfl) ?_ ?_
  · refine lay_make (vx := .int .i64 6) (vy := .int .i64 6) (ob := (Obj.cells (madeCells #[.int .i64 0] 6) 2)) (mk := fun b => .slice (some ⟨b, 0, none⟩) 6 6) rfl ?_ ?_ ?_
    · rfl
    · rfl
    · exact M2
  intro b3 fb3
  simp only [Act.put, List.setIfInBounds_toArray, List.set_cons_succ, List.set_cons_zero]
  refine wpFree_lay (ob := (Obj.cells (madeCells #[.float .f64 0] 12) 22)) (mk := fun b => .slice (some ⟨b, 0, none⟩) 12 12) (by rfl) (by kernel_rfl) ?_ ?_
  · refine lay_make (vx := .int .i64 12) (vy := .int .i64 12) (ob := (Obj.cells (madeCells #[.float .f64 0] 12) 22)) (mk := fun b => .slice (some ⟨b, 0, none⟩) 12 12) rfl ?_ ?_ ?_
    · rfl
    · rfl
    · exact M3
  intro b4 fb4
  simp only [Act.put, List.setIfInBounds_toArray, List.set_cons_succ, List.set_cons_zero]
  refine wpFree_one HU (by rfl) (by rfl) ?_
  go_big_quiet_step (with_reducible rfl)
  refine wpQuiet_nil ?_
  refine wpFree_nil ?_
  intro wz hz
  have h1 := hz.at (i := 0) (b := b1) (ob := (Obj.cells (madeCells #[.float .f64 0] 6) 22)) (by rfl) (by rfl)
  have h2 := hz.at (i := 1) (b := b2) (ob := (Obj.cells (madeCells #[.int .i64 0] 6) 2)) (by rfl) (by rfl)
  have h3 := hz.at (i := 2) (b := b3) (ob := (Obj.cells (madeCells #[.int .i64 0] 6) 2)) (by rfl) (by rfl)
  have h4 := hz.at (i := 3) (b := b4) (ob := (Obj.cells (madeCells #[.float .f64 0] 12) 22)) (by rfl) (by rfl)
  have n12 : b1 ≠ b2 := fb2.2 0 b1 (by rfl)
  have n13 : b1 ≠ b3 := fb3.2 0 b1 (by rfl)
  have n14 : b1 ≠ b4 := fb4.2 0 b1 (by rfl)
  have n23 : b2 ≠ b3 := fb3.2 1 b2 (by rfl)
  have n24 : b2 ≠ b4 := fb4.2 1 b2 (by rfl)
  have n34 : b3 ≠ b4 := fb4.2 2 b3 (by rfl)
  have AZ : Ab W wz := (Ab.refl W).drew.trans hz.1
  have WS : W.heap.size <= b1 /\ W.heap.size <= b2 /\ W.heap.size <= b3 /\ W.heap.size <= b4 := ⟨h1.2, h2.2, h3.2, h4.2⟩
  have GL : g4 < W.heap.size := lt_of_get R0.out
  have RZ := hid (AZ.heap R0.out)
  have HH := hid (And.intro h1.1 (And.intro h2.1 (And.intro h3.1 h4.1)))
  have NN := hid (And.intro n12 (And.intro n13 (And.intro n14 (And.intro n23 (And.intro n24 n34)))))
  have LL := hid (And.intro WS GL)
  have HAZ := hid (A0.out.trans AZ)
  clear hz fb1 fb2 fb3 fb4 h1 h2 h3 h4 n12 n13 n14 n23 n24 n34 AZ HU WS GL
  clear E UU
  have t0 := cell_of_row _ _ 0 _ _ _ RZ.out
  have t1 := cell_of_row _ _ 1 _ _ _ RZ.out
  have t2 := cell_of_row _ _ 2 _ _ _ RZ.out
  have t3 := cell_of_row _ _ 3 _ _ _ RZ.out
  have t4 := cell_of_row _ _ 4 _ _ _ RZ.out
  have t5 := cell_of_row _ _ 5 _ _ _ RZ.out
  have f0 := free_row RZ.out 0
  have f1 := free_row RZ.out 1
  have f2 := free_row RZ.out 2
  have f3 := free_row RZ.out 3
  have f4 := free_row RZ.out 4
  have f5 := free_row RZ.out 5
  simp only [List.drop_succ_cons, List.drop_zero]
  go_wp2_with fail
  have RY := hid (row6 (x := .slice (some ⟨b1, 0, none⟩) 6 6) (y := .slice (some ⟨b2, 0, none⟩) 6 6) (z := .slice (some ⟨b3, 0, none⟩) 6 6) (p := .slice (some ⟨b4, 0, none⟩) 12 12) (q := .int .i64 0) (r := .int .i64 0) RZ.out)
  refine bodyPost_ret (v := .agg #[.slice (some ⟨b1, 0, none⟩) 6 6, .slice (some ⟨b2, 0, none⟩) 6 6, .slice (some ⟨b3, 0, none⟩) 6 6, .slice (some ⟨b4, 0, none⟩) 12 12, .int .i64 0, .int .i64 0]) ?_ rfl ?_
  · exact results_cell_row Tryz.results28 _ _ g4 _ _ (0, 0) _ rfl RY.out Tryz.underlying33 rfl (by kernel_rfl)
  obtain ⟨k1, k2, k3, k4⟩ := HH.out
  obtain ⟨n12, n13, n14, n23, n24, n34⟩ := NN.out
  obtain ⟨⟨s1, s2, s3, s4⟩, gl⟩ := LL.out
  have g := HG.out
  have st : ∀ (b : Nat) (o : Obj), b ≠ g4 -> wz.heap[b]? = some o -> ∀ x0 x1 x2 x3 x4 x5, ((((((wz.setCell ⟨g4, 0, none⟩ x0).setCell ⟨g4, 1, none⟩ x1).setCell ⟨g4, 2, none⟩ x2).setCell ⟨g4, 3, none⟩ x3).setCell ⟨g4, 4, none⟩ x4).setCell ⟨g4, 5, none⟩ x5).heap[b]? = some o := fun b o hb h x0 x1 x2 x3 x4 x5 => by
    rw [heap_set_ne hb, heap_set_ne hb, heap_set_ne hb, heap_set_ne hb, heap_set_ne hb, heap_set_ne hb]
    exact h
  refine ⟨b1, b2, b3, b4, rfl, ?_, made_row (st b1 _ (by omega) k1 _ _ _ _ _ _), made_row (st b2 _ (by omega) k2 _ _ _ _ _ _), made_row (st b3 _ (by omega) k3 _ _ _ _ _ _), made_row (st b4 _ (by omega) k4 _ _ _ _ _ _), by omega, by omega, by omega, by omega, n12, n13, n14, n23, n24, n34⟩
  exact (((((HAZ.out.setk (Nat.le_of_eq g) _).setk (Nat.le_of_eq g) _).setk (Nat.le_of_eq g) _).setk (Nat.le_of_eq g) _).setk (Nat.le_of_eq g) _).setk (Nat.le_of_eq g) _
end Ss
end Go.Proofs.YtdigecacmibkpaaGreatDoor

namespace Go.Proofs.YtdigecacmibkpaaGreatDoor
open Go.RowKit Tf Cu Go.Deep
attribute [local go_sem] run_bits run_from raw_feq raw_fne raw_flt raw_fgt run_neg run_store_float
namespace Ss
def awB (i : Nat) : Nat := if i = 4 then 4701340746312056832 else 0
def awS (i : Nat) : Nat := if i = 0 then 4607182418800017408 else 0
theorem aw_chk : chk 1 6 6 6 12 awB (fun _ => 0) (fun _ => 0) (fun _ => 0) 0 0 = (4, 13) := by decide +kernel
theorem aw_fil : fil 0 1431655765 4607182418800017408 = 1431655765 := by decide +kernel
theorem aw_lkW : ∀ c, c < 6 -> lkW 1 (fun _ => 0) 4607182418800017408 c = 1431655765 := fun c hc => by
  unfold lkW arC
  rw [ar13 c hc]
  exact aw_fil
theorem aw_b0 : bB (fun _ => 0) 0 = false := by decide +kernel
theorem aw_s0 : (!btw 0 13875590451928498176 4652218415073722368) = false /\ (!btw 4607182418800017408 13875590451928498176 4652218415073722368) = false := by decide +kernel
theorem aw_lv : ((fgt 4607182418800017408 13920626448202203136 || feq 4607182418800017408 13920626448202203136) && (flt 4607182418800017408 4697254411347427328 || feq 4607182418800017408 4697254411347427328)) = true := by decide +kernel
theorem aw_q : (∀ i, i < 6 -> 0 <= lkW 1 (fun _ => 0) 4607182418800017408 i) /\ Sh.sumN (lkW 1 (fun _ => 0) 4607182418800017408) 6 = 8589934590 := by
  refine ⟨fun i hi => by rw [aw_lkW i hi]; omega, ?_⟩
  show (((((0 + lkW 1 (fun _ => 0) 4607182418800017408 0) + lkW 1 (fun _ => 0) 4607182418800017408 1) + lkW 1 (fun _ => 0) 4607182418800017408 2) + lkW 1 (fun _ => 0) 4607182418800017408 3) + lkW 1 (fun _ => 0) 4607182418800017408 4) + lkW 1 (fun _ => 0) 4607182418800017408 5 = _
  rw [aw_lkW 0 (by omega), aw_lkW 1 (by omega), aw_lkW 2 (by omega), aw_lkW 3 (by omega), aw_lkW 4 (by omega), aw_lkW 5 (by omega)]
  rfl
theorem aw_lkE : lkE 1 6 (fun _ => 0) 4607182418800017408 = 0 := by
  unfold lkE
  have e6 : (6 : Nat) = 6 * (1 : Int).toNat * (1 : Int).toNat := by decide
  rw [if_neg (by decide), if_neg (fun q => q e6), if_neg (by rw [fp_none (p := bB fun _ => 0) (fun i _ => aw_b0)]; decide), if_neg (by rw [aw_lv]; decide)]
  have k : ∀ i, i < 6 -> bQ (lkW 1 (fun _ => 0) 4607182418800017408) 0 i = false := (bQ_none (by omega)).2 ⟨aw_q.1, by rw [aw_q.2]; omega⟩
  have e : lkW (1 : Int).toNat = lkW 1 := rfl
  rw [e, fp_none k]
  rfl
theorem aw_ok : okN 6 (fun _ => 0) (lkW 1 (fun _ => 0) 4607182418800017408) (fun _ => 0) awS 0 0 := by
  refine ⟨fun _ _ => aw_b0, by omega, ⟨aw_q.1, by rw [aw_q.2]; omega⟩, ⟨fun _ _ => Int.le_refl _, by show (0 : Int) + 0 + 0 + 0 + 0 + 0 + 0 <= _; omega⟩, fun i _ => ?_, by omega, by omega⟩
  show (!btw (awS i) 13875590451928498176 4652218415073722368) = false
  unfold awS
  split
  · exact aw_s0.2
  · exact aw_s0.1
theorem aw_tuE : tuE 1 6 6 6 12 (fun _ => 0) (lkW 1 (fun _ => 0) 4607182418800017408) (fun _ => 0) awS 0 0 4 = 0 := by
  have c : chk 1 6 6 6 12 (fun _ => 0) (lkW 1 (fun _ => 0) 4607182418800017408) (fun _ => 0) awS 0 0 = (0, 0) := by
    unfold chk
    rw [if_pos (by decide)]
    exact chN_zero ⟨⟨by decide, by decide, by decide, by decide⟩, aw_ok⟩
  unfold tuE
  rw [c, if_neg (by decide), if_pos (by decide)]
theorem aw_plE (R : Nat -> Int × Int × Int × Int) : plE 1 0 0 0 0 0 R = 11 := by
  unfold plE
  rw [if_neg (by decide), if_pos (fun q => absurd q.2.1 (by decide +kernel))]
theorem own_sea {M : Nat} {v : Value} {nb nw nt ns : Nat} {B : Nat -> Nat} {W T : Nat -> Int} {S : Nat -> Nat} {sky st : Int} {w : World} (h : OwnS M v nb nw nt ns B W T S sky st w) (hB : ∀ i, i < nb -> B i < 18446744073709551616) (hW : ∀ i, i < nw -> Sh.W64 (W i)) (hT : ∀ i, i < nt -> Sh.W64 (T i)) (hS : ∀ i, i < ns -> S i < 18446744073709551616) :
    ∃ p1 c1 p2 c2 p3 c3 p4 c4, v = .agg #[.slice p1 nb c1, .slice p2 nw c2, .slice p3 nt c3, .slice p4 ns c4, .int .i64 sky, .int .i64 st] /\ IsFl w p1 nb B /\ Sh.IsI w p2 nw W /\ Sh.IsI w p3 nt T /\ IsFl w p4 ns S /\ Sh.Own M (.slice p2 nw c2) ((List.range nw).map W) w /\ Sh.Own M (.slice p3 nt c3) ((List.range nt).map T) w /\ OwnG M (.slice p1 nb c1) ((List.range nb).map B) w /\ OwnG M (.slice p4 ns c4) ((List.range ns).map S) w /\ Dj (.slice p1 nb c1) (.slice p4 ns c4) := by
  obtain ⟨v1, v2, v3, v4, rfl, o1, o2, o3, o4, d1, -⟩ := h
  have fl : ∀ (u : Value) (n : Nat) (f : Nat -> Nat), (∀ i, i < n -> f i < 18446744073709551616) -> OwnG M u ((List.range n).map f) w -> ∃ p c, u = .slice p n c /\ IsFl w p n f := fun u n f hf o => by
    obtain ⟨p, c, e, i⟩ := o.fl (fun x hx => by obtain ⟨j, hj, rfl⟩ := List.mem_map.1 hx; exact hf j (List.mem_range.1 hj))
    rw [List.length_map, List.length_range] at e i
    exact ⟨p, c, e, fun k hk => by have := i k hk; simpa [List.getD, hk] using this⟩
  have ii : ∀ (u : Value) (n : Nat) (f : Nat -> Int), (∀ i, i < n -> Sh.W64 (f i)) -> Sh.Own M u ((List.range n).map f) w -> ∃ p c, u = .slice p n c /\ Sh.IsI w p n f := fun u n f hf o => by
    obtain ⟨p, c, e, i⟩ := o.in (fun x hx => by obtain ⟨j, hj, rfl⟩ := List.mem_map.1 hx; exact hf j (List.mem_range.1 hj))
    rw [List.length_map, List.length_range] at e i
    exact ⟨p, c, e, fun k hk => by have := i k hk; simpa [List.getD, hk] using this⟩
  obtain ⟨p1, c1, rfl, i1⟩ := fl v1 nb B hB o1
  obtain ⟨p2, c2, rfl, i2⟩ := ii v2 nw W hW o2
  obtain ⟨p3, c3, rfl, i3⟩ := ii v3 nt T hT o3
  obtain ⟨p4, c4, rfl, i4⟩ := fl v4 ns S hS o4
  exact ⟨p1, c1, p2, c2, p3, c3, p4, c4, rfl, i1, i2, i3, i4, o2, o3, o1, o4, d1⟩
theorem own_val {M : Nat} {t : TypeId} {v : Value} {n : Nat} {l : List Value} {w : World} (h : w.ownsRow M t 1 v n l) : ∃ p c, v = .slice p n c := by
  rcases h.2 with ⟨q, e⟩ | ⟨g, cap, cur, q, _⟩
  · exact ⟨none, 0, by rw [q, e]⟩
  · exact ⟨_, cap, q⟩
theorem ownG_at0 {M n : Nat} {p : Option Addr} {c : Nat} {S : Nat -> Nat} {w : World} (h : OwnG M (.slice p n c) ((List.range n).map S) w) (h0 : 0 < n) : ∃ g, p = some ⟨g, 0, none⟩ /\ M <= g /\ ∃ F, w.rowIs g 22 c F := by
  rcases h.2 with ⟨q, e⟩ | ⟨g, cap, cur, e, hb, hg, h1, h2, h3, h4⟩
  · rw [List.length_map, List.length_range] at e; omega
  · injection e with e1 e2 e3
    subst e1 e3
    refine ⟨g, rfl, hb, fun i => (cur[i]?).getD (.bool false), cur, hg, by omega, fun i hi => ?_⟩
    have q : i < cur.size := by omega
    simp [q]
theorem isFl_ne {w : World} {p : Option Addr} {n g k : Nat} {f : Nat -> Nat} (v : Value) (h : IsFl w p n f) (hp : ∀ b o, p = some ⟨b, o, none⟩ -> b ≠ g) : IsFl (w.setCell ⟨g, k, none⟩ v) p n f := fun i hi => by
  obtain ⟨h1, b, o, h2, h3, h4⟩ := h i hi
  exact ⟨h1, b, o, h2, by simpa [World.setCell] using h3, (World.cell?_of_block (Below.heap_setCell _ _ _ _ (hp b o h2))).trans h4⟩
theorem isI_ne {w : World} {p : Option Addr} {n g k : Nat} {f : Nat -> Int} (v : Value) (h : Sh.IsI w p n f) (hp : ∀ b o, p = some ⟨b, o, none⟩ -> b ≠ g) : Sh.IsI (w.setCell ⟨g, k, none⟩ v) p n f := fun i hi => by
  obtain ⟨h1, b, o, h2, h3, h4⟩ := h i hi
  exact ⟨h1, b, o, h2, by simpa [World.setCell] using h3, (World.cell?_of_block (Below.heap_setCell _ _ _ _ (hp b o h2))).trans h4⟩
theorem own_ty {M n m c : Nat} {p : Option Addr} {W : Nat -> Int} {w : World} {g : Nat} {F : Nat -> Value} (h : Sh.Own M (.slice p n c) ((List.range n).map W) w) (hg : w.rowIs g 22 m F) : ∀ b o, p = some ⟨b, o, none⟩ -> b ≠ g := fun b o e q => by
  subst q
  obtain ⟨cs, hc, -, -⟩ := hg
  rcases h.2 with ⟨q, _⟩ | ⟨g2, cap, cur, q, hb, hg2, _⟩
  · injection q with q1
    rw [e] at q1
    cases q1
  · injection q with q1
    rw [e] at q1
    injection q1 with q1
    injection q1 with q1
    subst q1
    rw [hc] at hg2
    injection hg2 with hg2
    injection hg2 with _ t
    exact absurd t (by decide)
theorem isFl_set0 {w : World} {n g m : Nat} {f f' : Nat -> Nat} {F : Nat -> Value} (x : Nat) (hx : x < 18446744073709551616) (h : IsFl w (some ⟨g, 0, none⟩) n f) (hr : w.rowIs g 22 m F) (hm : n <= m) (e : ∀ i, i < n -> f' i = if i = 0 then x else f i) : IsFl (w.setCell ⟨g, 0, none⟩ (.float .f64 x)) (some ⟨g, 0, none⟩) n f' := fun i hi => by
  obtain ⟨h1, b, o, h2, h3, h4⟩ := h i hi
  cases h2
  have r := (hr.set 0 (.float .f64 x)).cell (i := i) (by omega)
  have c := hr.cell (i := i) (by omega)
  rw [Nat.zero_add] at h4
  rw [c] at h4
  injection h4 with h4
  refine ⟨?_, g, 0, rfl, by simpa [World.setCell] using h3, ?_⟩
  · rw [e i hi]; split <;> omega
  · rw [Nat.zero_add, r, e i hi]
    by_cases q : i = 0
    · rw [if_pos q, if_pos q]
    · rw [if_neg q, if_neg q, h4]
theorem awake20_at (PC : PlanC) (CC : CheckC) (SC : SameC) (YC : CopyC) (TC : TurnedC) (LC : LakeC) (w : World) (hF : Fr w) : Calls Tryz.prog 9 #[] w fun e w' => e = .returned (.bool true) /\ Below w.heap.size w w' := by
  have HF := hid hF
  have MK : ∀ v : World, (Instr.makeSlice 30 (.int .i64 6) (.int .i64 6)).run Tryz.prog v = .ok (.slice (some ⟨v.heap.size, 0, none⟩) 6 6) (v.alloc (Obj.cells (madeCells #[.float .f64 0] 6) 22)) := fun v => run_make_row' (P := Tryz.prog) 30 22 (.float .f64 0) 8 Tryz.underlying30 infoF64 rfl .i64 .i64 6 (by omega) (by omega) v
  have HP := hid PC
  have HC := hid CC
  have HS := hid SC
  have HY := hid YC
  have HT := hid TC
  have HL := hid LC
  clear hF PC CC SC YC TC LC
  go_enter Tryz.func9, Tryz.ntmps9
  go_wp2_with fail
  refine (nothing_at w).mono ?_
  rintro e9 v1 ⟨b1, b2, b3, b4, rfl, k1, r1, r2, r3, r4, hb⟩
  have A1 : Hid (Ab w (v1.alloc (.cells #[.slice (some ⟨b1, 0, none⟩) 6 6, .slice (some ⟨b2, 0, none⟩) 6 6, .slice (some ⟨b3, 0, none⟩) 6 6, .slice (some ⟨b4, 0, none⟩) 12 12, .int .i64 0, .int .i64 0] 33))) := (show Ab w v1 from k1).trans (bl1 _ _)
  have R1 := hid (r1.alloc (.cells #[.slice (some ⟨b1, 0, none⟩) 6 6, .slice (some ⟨b2, 0, none⟩) 6 6, .slice (some ⟨b3, 0, none⟩) 6 6, .slice (some ⟨b4, 0, none⟩) 12 12, .int .i64 0, .int .i64 0] 33))
  have R2 := hid (r2.alloc (.cells #[.slice (some ⟨b1, 0, none⟩) 6 6, .slice (some ⟨b2, 0, none⟩) 6 6, .slice (some ⟨b3, 0, none⟩) 6 6, .slice (some ⟨b4, 0, none⟩) 12 12, .int .i64 0, .int .i64 0] 33))
  have R3 := hid (r3.alloc (.cells #[.slice (some ⟨b1, 0, none⟩) 6 6, .slice (some ⟨b2, 0, none⟩) 6 6, .slice (some ⟨b3, 0, none⟩) 6 6, .slice (some ⟨b4, 0, none⟩) 12 12, .int .i64 0, .int .i64 0] 33))
  have R4 := hid (r4.alloc (.cells #[.slice (some ⟨b1, 0, none⟩) 6 6, .slice (some ⟨b2, 0, none⟩) 6 6, .slice (some ⟨b3, 0, none⟩) 6 6, .slice (some ⟨b4, 0, none⟩) 12 12, .int .i64 0, .int .i64 0] 33))
  have RS : Hid ((v1.alloc (.cells #[.slice (some ⟨b1, 0, none⟩) 6 6, .slice (some ⟨b2, 0, none⟩) 6 6, .slice (some ⟨b3, 0, none⟩) 6 6, .slice (some ⟨b4, 0, none⟩) 12 12, .int .i64 0, .int .i64 0] 33)).heap[v1.heap.size]? = some (.cells #[.slice (some ⟨b1, 0, none⟩) 6 6, .slice (some ⟨b2, 0, none⟩) 6 6, .slice (some ⟨b3, 0, none⟩) 6 6, .slice (some ⟨b4, 0, none⟩) 12 12, .int .i64 0, .int .i64 0] 33)) := heap_alloc_new _ _
  have HB := hid hb
  have GS : Hid (v1.heap.size ≠ b1) := by have := r1.lt; show _ ≠ _; omega
  clear k1 r1 r2 r3 r4 hb
  go_upto_region 2 with fail
  generalize hW : World.alloc v1 _ = V1 at *
  obtain ⟨gs, hgs⟩ : ∃ g, v1.heap.size = g := ⟨_, rfl⟩
  rw [hgs] at RS GS ⊢
  clear hgs hW
  have x0 := cell_of_row _ _ 0 _ _ _ RS.out
  have y4 := R1.out.cell (show 4 < 6 by omega)
  have z4 := R1.out.frozen 4
  go_upto_region 3 with fail
  have A2 : Hid (Ab w (V1.setCell ⟨b1, 4, none⟩ (.float .f64 4701340746312056832))) := A1.out.setk HB.out.1 _
  have Q1 : Hid ((V1.setCell ⟨b1, 4, none⟩ (.float .f64 4701340746312056832)).rowIs b1 22 6 (fun i => .float .f64 (awB i))) := (R1.out.set 4 _).congr (fun i _ => by unfold awB; by_cases e : i = 4 <;> simp [e])
  have Q2 := hid (R2.out.setOther (a := ⟨b1, 4, none⟩) (Ne.symm HB.out.2.2.2.2.1) (.float .f64 4701340746312056832))
  have Q3 := hid (R3.out.setOther (a := ⟨b1, 4, none⟩) (Ne.symm HB.out.2.2.2.2.2.1) (.float .f64 4701340746312056832))
  have Q4 := hid (R4.out.setOther (a := ⟨b1, 4, none⟩) (Ne.symm HB.out.2.2.2.2.2.2.1) (.float .f64 4701340746312056832))
  have RT : Hid ((V1.setCell ⟨b1, 4, none⟩ (.float .f64 4701340746312056832)).heap[gs]? = some (.cells #[.slice (some ⟨b1, 0, none⟩) 6 6, .slice (some ⟨b2, 0, none⟩) 6 6, .slice (some ⟨b3, 0, none⟩) 6 6, .slice (some ⟨b4, 0, none⟩) 12 12, .int .i64 0, .int .i64 0] 33)) := (Below.heap_setCell _ _ _ _ GS.out).trans RS.out
  generalize World.setCell V1 _ _ = V2 at *
  clear x0 y4 z4 R1 R2 R3 R4 RS A1 GS
  have I1 : Hid (IsFl V2 (some ⟨b1, 0, none⟩) 6 awB) := fun i hi => ⟨by unfold awB; split <;> decide, b1, 0, rfl, Q1.out.lt, by rw [Nat.zero_add]; exact Q1.out.cell hi⟩
  have I2 : Hid (Sh.IsI V2 (some ⟨b2, 0, none⟩) 6 (fun _ => 0)) := fun i hi => ⟨by (try dsimp only); omega, b2, 0, rfl, Q2.out.lt, by rw [Nat.zero_add]; exact Q2.out.cell hi⟩
  have I3 : Hid (Sh.IsI V2 (some ⟨b3, 0, none⟩) 6 (fun _ => 0)) := fun i hi => ⟨by (try dsimp only); omega, b3, 0, rfl, Q3.out.lt, by rw [Nat.zero_add]; exact Q3.out.cell hi⟩
  have I4 : Hid (IsFl V2 (some ⟨b4, 0, none⟩) 12 (fun _ => 0)) := fun i hi => ⟨by (try dsimp only); omega, b4, 0, rfl, Q4.out.lt, by rw [Nat.zero_add]; exact Q4.out.cell hi⟩
  have x0 := cell_of_row _ _ 0 _ _ _ RT.out
  have x1 := cell_of_row _ _ 1 _ _ _ RT.out
  have x2 := cell_of_row _ _ 2 _ _ _ RT.out
  have x3 := cell_of_row _ _ 3 _ _ _ RT.out
  have x4 := cell_of_row _ _ 4 _ _ _ RT.out
  have x5 := cell_of_row _ _ 5 _ _ _ RT.out
  have CH := hid (HC.out 1 (some ⟨b1, 0, none⟩) 6 6 awB (some ⟨b2, 0, none⟩) 6 6 (fun _ => 0) (some ⟨b3, 0, none⟩) 6 6 (fun _ => 0) (some ⟨b4, 0, none⟩) 12 12 (fun _ => 0) 0 0 V2 (by unfold Sh.W64; omega) (by unfold Sh.W64; omega) (by unfold Sh.W64; omega) (by omega) I1.out I2.out I3.out I4.out)
  rw [aw_chk] at CH
  go_wp2_with fail
  refine CH.out.mono ?_
  rintro e9 v3 ⟨rfl, k3⟩
  have A3 : Hid (Ab w v3) := A2.out.trans k3
  clear k3 CH x0 x1 x2 x3 x4 x5 I1 I2 I3 I4 Q1 Q2 Q3 Q4 RT A2 HB
  have M3 := MK v3
  have A4 : Hid (Ab w (v3.alloc (Obj.cells (madeCells #[.float .f64 0] 6) 22))) := A3.out.trans (bl1 _ _)
  have I5 : Hid (IsFl (v3.alloc (Obj.cells (madeCells #[.float .f64 0] 6) 22)) (some ⟨v3.heap.size, 0, none⟩) 6 (fun _ => 0)) := fun i hi => ⟨by (try dsimp only); omega, v3.heap.size, 0, rfl, by simp, by rw [Nat.zero_add]; exact (World.rowIs_made v3 (.float .f64 0) 6 22).cell hi⟩
  have LK := hid ((HL.out 1 (some ⟨v3.heap.size, 0, none⟩) 6 6 (fun _ => 0) 4607182418800017408 (v3.alloc (Obj.cells (madeCells #[.float .f64 0] 6) 22)) (HF.out.to A4.out) (by unfold Sh.W64; omega) (by omega) (by decide) I5.out).1 aw_lkE)
  go_wp2_with fail
  refine LK.out.mono ?_
  rintro e9 v4 ⟨lv, rfl, k4, os4⟩
  have A5 : Hid (Ab w v4) := A4.out.trans k4
  obtain ⟨p1, c1, p2, c2, p3, c3, p4, c4, rfl, i1, i2, i3, i4, -, -, -, -, -⟩ := own_sea os4 (fun _ _ => by (try dsimp only); omega) (fun i hi => by have e := aw_lkW i hi; unfold Sh.W64; show _ <= lkW 1 (fun _ => 0) 4607182418800017408 i /\ lkW 1 (fun _ => 0) 4607182418800017408 i <= _; omega) (fun _ _ => by unfold Sh.W64; (try dsimp only); omega) (fun _ _ => by (try dsimp only); omega)
  have L1 := hid i1
  have L2 : Hid (Sh.IsI v4 p2 6 (lkW 1 (fun _ => 0) 4607182418800017408)) := i2
  have L3 := hid i3
  have L4 : Hid (IsFl v4 p4 12 (fun _ => 0)) := i4
  have A6 : Hid (Ab v4 (v4.alloc (.cells #[.slice p1 6 c1, .slice p2 6 c2, .slice p3 6 c3, .slice p4 12 c4, .int .i64 0, .int .i64 0] 33))) := bl1 _ _
  have RL : Hid ((v4.alloc (.cells #[.slice p1 6 c1, .slice p2 6 c2, .slice p3 6 c3, .slice p4 12 c4, .int .i64 0, .int .i64 0] 33)).heap[v4.heap.size]? = some (.cells #[.slice p1 6 c1, .slice p2 6 c2, .slice p3 6 c3, .slice p4 12 c4, .int .i64 0, .int .i64 0] 33)) := heap_alloc_new _ _
  clear k4 os4 i1 i2 i3 i4 LK M3 MK A4 I5 A3
  go_upto_region 5 with fail
  generalize hW : World.alloc v4 _ = V5 at *
  obtain ⟨gl, hgl⟩ : ∃ g, v4.heap.size = g := ⟨_, rfl⟩
  rw [hgl] at RL ⊢
  clear hgl hW
  have A7 : Hid (Ab w V5) := A5.out.trans A6.out
  have N1 := hid (L1.out.below A6.out)
  have N2 := hid (L2.out.below A6.out)
  have N3 := hid (L3.out.below A6.out)
  have N4 := hid (L4.out.below A6.out)
  clear L1 L2 L3 L4 A5 A6
  obtain ⟨qb2, qo2, rfl⟩ := N2.out.some0 (by omega)
  have x0 := cell_of_row _ _ 0 _ _ _ RL.out
  have x1 := cell_of_row _ _ 1 _ _ _ RL.out
  have x2 := cell_of_row _ _ 2 _ _ _ RL.out
  have x3 := cell_of_row _ _ 3 _ _ _ RL.out
  have x4 := cell_of_row _ _ 4 _ _ _ RL.out
  have x5 := cell_of_row _ _ 5 _ _ _ RL.out
  have w5 := (N2.out.at0 (k := 5) (by omega)).2.2
  rw [aw_lkW 5 (by omega)] at w5
  have PL := hid (HP.out 1 0 0 0 0 false none 0 0 (fun _ => (0, 0, 0, 0)) V5 (by unfold Sh.W64; omega) (by unfold Sh.W64; omega) (by omega) (by omega) (Rn.IsRn.nil _ _ _))
  rw [aw_plE] at PL
  go_wp2_with fail
  refine PL.out.mono ?_
  rintro e9 v6 ⟨rfl, k6⟩
  have B6 : Hid (Ab V5 v6) := k6
  clear k6 PL x0 x1 x2 x3 x4 x5 w5
  have x0 := cell_of_row _ _ 0 _ _ _ (B6.out.heap RL.out)
  have x1 := cell_of_row _ _ 1 _ _ _ (B6.out.heap RL.out)
  have x2 := cell_of_row _ _ 2 _ _ _ (B6.out.heap RL.out)
  have x3 := cell_of_row _ _ 3 _ _ _ (B6.out.heap RL.out)
  have x4 := cell_of_row _ _ 4 _ _ _ (B6.out.heap RL.out)
  have x5 := cell_of_row _ _ 5 _ _ _ (B6.out.heap RL.out)
  have CP := hid (HY.out p1 6 c1 (fun _ => 0) (some ⟨qb2, qo2, none⟩) 6 c2 (lkW 1 (fun _ => 0) 4607182418800017408) p3 6 c3 (fun _ => 0) p4 12 c4 (fun _ => 0) 0 0 v6 (by omega) (N1.out.below B6.out) (N2.out.below B6.out) (N3.out.below B6.out) (N4.out.below B6.out))
  go_wp2_with fail
  refine CP.out.mono ?_
  rintro e9 v7 ⟨tv, rfl, k7, os7⟩
  have B7 : Hid (Ab v6 v7) := k7
  obtain ⟨q1, d1, q2, d2, q3, d3, q4, d4, rfl, j1, j2, j3, j4, o2, o3, o1, o4, dj⟩ := own_sea os7 (fun _ _ => by (try dsimp only); omega) (fun i hi => by have e := aw_lkW i hi; unfold Sh.W64; omega) (fun _ _ => by unfold Sh.W64; (try dsimp only); omega) (fun _ _ => by (try dsimp only); omega)
  obtain ⟨g, rfl, hg, Fg, rg⟩ := ownG_at0 o4 (by omega)
  have lg : 12 <= d4 := by
    rcases o4.2 with ⟨q, _⟩ | ⟨g2, cap, cur, q, _, _, q1, _⟩
    · cases q
    · injection q with _ _ q3
      rw [List.length_map, List.length_range] at q1
      omega
  have T1 := hid (j1.below (bl1 v7 (.cells #[.slice q1 6 d1, .slice q2 6 d2, .slice q3 6 d3, .slice (some ⟨g, 0, none⟩) 12 d4, .int .i64 0, .int .i64 0] 33)))
  have T2 := hid (j2.below (bl1 v7 (.cells #[.slice q1 6 d1, .slice q2 6 d2, .slice q3 6 d3, .slice (some ⟨g, 0, none⟩) 12 d4, .int .i64 0, .int .i64 0] 33)))
  have T3 := hid (j3.below (bl1 v7 (.cells #[.slice q1 6 d1, .slice q2 6 d2, .slice q3 6 d3, .slice (some ⟨g, 0, none⟩) 12 d4, .int .i64 0, .int .i64 0] 33)))
  have T4 := hid (j4.below (bl1 v7 (.cells #[.slice q1 6 d1, .slice q2 6 d2, .slice q3 6 d3, .slice (some ⟨g, 0, none⟩) 12 d4, .int .i64 0, .int .i64 0] 33)))
  have RG := hid (rg.alloc (.cells #[.slice q1 6 d1, .slice q2 6 d2, .slice q3 6 d3, .slice (some ⟨g, 0, none⟩) 12 d4, .int .i64 0, .int .i64 0] 33))
  have RV : Hid ((v7.alloc (.cells #[.slice q1 6 d1, .slice q2 6 d2, .slice q3 6 d3, .slice (some ⟨g, 0, none⟩) 12 d4, .int .i64 0, .int .i64 0] 33)).heap[v7.heap.size]? = some (.cells #[.slice q1 6 d1, .slice q2 6 d2, .slice q3 6 d3, .slice (some ⟨g, 0, none⟩) 12 d4, .int .i64 0, .int .i64 0] 33)) := heap_alloc_new _ _
  have A8 : Hid (Ab v7 (v7.alloc (.cells #[.slice q1 6 d1, .slice q2 6 d2, .slice q3 6 d3, .slice (some ⟨g, 0, none⟩) 12 d4, .int .i64 0, .int .i64 0] 33))) := bl1 _ _
  have NG : Hid ((∀ b o, q1 = some ⟨b, o, none⟩ -> b ≠ g) /\ (∀ b o, q2 = some ⟨b, o, none⟩ -> b ≠ g) /\ (∀ b o, q3 = some ⟨b, o, none⟩ -> b ≠ g) /\ v6.heap.size <= g /\ v7.heap.size ≠ g /\ 12 <= d4) := by
    refine ⟨fun b o e q => ?_, own_ty o2 rg, own_ty o3 rg, hg, ?_, lg⟩
    · subst e
      exact dj b rfl (by rw [q]; rfl)
    · have := rg.lt
      omega
  clear k7 os7 j1 j2 j3 j4 o1 o2 o3 o4 dj hg rg lg CP x0 x1 x2 x3 x4 x5
  go_upto_region 8 with fail
  generalize hW : World.alloc v7 _ = V8 at *
  obtain ⟨gt, hgt⟩ : ∃ x, v7.heap.size = x := ⟨_, rfl⟩
  rw [hgt] at RV NG ⊢
  clear hgt hW
  have x3 := cell_of_row _ _ 3 _ _ _ RV.out
  have y0 := RG.out.cell (show 0 < d4 by have := NG.out; omega)
  have z0 := RG.out.frozen 0
  go_upto_region 9 with fail
  have U1 := hid (isFl_ne (g := g) (k := 0) (.float .f64 4607182418800017408) T1.out NG.out.1)
  have U2 := hid (isI_ne (g := g) (k := 0) (.float .f64 4607182418800017408) T2.out NG.out.2.1)
  have U3 := hid (isI_ne (g := g) (k := 0) (.float .f64 4607182418800017408) T3.out NG.out.2.2.1)
  have U4 : Hid (IsFl (V8.setCell ⟨g, 0, none⟩ (.float .f64 4607182418800017408)) (some ⟨g, 0, none⟩) 12 awS) := isFl_set0 4607182418800017408 (by decide) T4.out RG.out NG.out.2.2.2.2.2 (fun i _ => rfl)
  have RU : Hid ((V8.setCell ⟨g, 0, none⟩ (.float .f64 4607182418800017408)).heap[gt]? = some (.cells #[.slice q1 6 d1, .slice q2 6 d2, .slice q3 6 d3, .slice (some ⟨g, 0, none⟩) 12 d4, .int .i64 0, .int .i64 0] 33)) := (Below.heap_setCell _ _ _ _ NG.out.2.2.2.2.1).trans RV.out
  have B9 : Hid (Ab v6 (V8.setCell ⟨g, 0, none⟩ (.float .f64 4607182418800017408))) := (B7.out.trans A8.out).setk NG.out.2.2.2.1 _
  generalize World.setCell V8 _ _ = V9 at *
  clear x3 y0 z0 T1 T2 T3 T4 RG RV A8 B7
  have A9 : Hid (Ab w V9) := A7.out.trans (B6.out.trans B9.out)
  have x0 := cell_of_row _ _ 0 _ _ _ RU.out
  have x1 := cell_of_row _ _ 1 _ _ _ RU.out
  have x2 := cell_of_row _ _ 2 _ _ _ RU.out
  have x3 := cell_of_row _ _ 3 _ _ _ RU.out
  have x4 := cell_of_row _ _ 4 _ _ _ RU.out
  have x5 := cell_of_row _ _ 5 _ _ _ RU.out
  have TU := hid ((HT.out 1 q1 6 d1 (fun _ => 0) q2 6 d2 (lkW 1 (fun _ => 0) 4607182418800017408) q3 6 d3 (fun _ => 0) (some ⟨g, 0, none⟩) 12 d4 awS 0 0 4 V9 (HF.out.to A9.out) (by unfold Sh.W64; omega) (by unfold Sh.W64; omega) (by unfold Sh.W64; omega) (by unfold Sh.W64; omega) (by omega) U1.out U2.out U3.out U4.out).1 aw_tuE)
  go_wp2_with fail
  refine TU.out.mono ?_
  rintro e9 v10 ⟨uv, rfl, k10, w1, w2, w3, w4, rfl, g1, g2, g3, g4, -, -⟩
  have B10 : Hid (Ab V9 v10) := k10
  obtain ⟨u1, s1, rfl⟩ := own_val g1
  obtain ⟨u2, s2, rfl⟩ := own_val g2
  obtain ⟨u3, s3, rfl⟩ := own_val g3
  obtain ⟨u4, s4, rfl⟩ := own_val g4
  simp only [List.length_map, List.length_range]
  have A11 : Hid (Ab v10 (v10.alloc (.cells #[.slice u1 6 s1, .slice u2 6 s2, .slice u3 6 s3, .slice u4 12 s4, .int .i64 0, .int .i64 0] 33))) := bl1 _ _
  have RW : Hid ((v10.alloc (.cells #[.slice u1 6 s1, .slice u2 6 s2, .slice u3 6 s3, .slice u4 12 s4, .int .i64 0, .int .i64 0] 33)).heap[v10.heap.size]? = some (.cells #[.slice u1 6 s1, .slice u2 6 s2, .slice u3 6 s3, .slice u4 12 s4, .int .i64 0, .int .i64 0] 33)) := heap_alloc_new _ _
  clear g1 g2 g3
  clear k10 g4 TU x0 x1 x2 x3 x4 x5
  go_upto_region 10 with fail
  generalize hW : World.alloc v10 _ = V11 at *
  obtain ⟨gu, hgu⟩ : ∃ x, v10.heap.size = x := ⟨_, rfl⟩
  rw [hgu] at RW ⊢
  clear hgu hW
  have AL : Hid (Ab V5 V11) := B6.out.trans (B9.out.trans (B10.out.trans A11.out))
  have AT : Hid (Ab V9 V11) := B10.out.trans A11.out
  have AE : Hid (Ab w V11) := A7.out.trans AL.out
  have x0 := cell_of_row _ _ 0 _ _ _ (AL.out.heap RL.out)
  have x1 := cell_of_row _ _ 1 _ _ _ (AL.out.heap RL.out)
  have x2 := cell_of_row _ _ 2 _ _ _ (AL.out.heap RL.out)
  have x3 := cell_of_row _ _ 3 _ _ _ (AL.out.heap RL.out)
  have x4 := cell_of_row _ _ 4 _ _ _ (AL.out.heap RL.out)
  have x5 := cell_of_row _ _ 5 _ _ _ (AL.out.heap RL.out)
  have y0 := cell_of_row _ _ 0 _ _ _ (AT.out.heap RU.out)
  have y1 := cell_of_row _ _ 1 _ _ _ (AT.out.heap RU.out)
  have y2 := cell_of_row _ _ 2 _ _ _ (AT.out.heap RU.out)
  have y3 := cell_of_row _ _ 3 _ _ _ (AT.out.heap RU.out)
  have y4 := cell_of_row _ _ 4 _ _ _ (AT.out.heap RU.out)
  have y5 := cell_of_row _ _ 5 _ _ _ (AT.out.heap RU.out)
  have z0 := cell_of_row _ _ 0 _ _ _ RW.out
  have z1 := cell_of_row _ _ 1 _ _ _ RW.out
  have z2 := cell_of_row _ _ 2 _ _ _ RW.out
  have z3 := cell_of_row _ _ 3 _ _ _ RW.out
  have z4 := cell_of_row _ _ 4 _ _ _ RW.out
  have z5 := cell_of_row _ _ 5 _ _ _ RW.out
  have S1 := hid (HS.out p1 6 c1 (fun _ => 0) (some ⟨qb2, qo2, none⟩) 6 c2 (lkW 1 (fun _ => 0) 4607182418800017408) p3 6 c3 (fun _ => 0) p4 12 c4 (fun _ => 0) 0 0 p1 6 c1 (fun _ => 0) (some ⟨qb2, qo2, none⟩) 6 c2 (lkW 1 (fun _ => 0) 4607182418800017408) p3 6 c3 (fun _ => 0) p4 12 c4 (fun _ => 0) 0 0 V11 (by omega) (by omega) (N1.out.below AL.out) (N2.out.below AL.out) (N3.out.below AL.out) (N4.out.below AL.out) (N1.out.below AL.out) (N2.out.below AL.out) (N3.out.below AL.out) (N4.out.below AL.out))
  have e1 : eqS 6 6 6 12 (fun _ => 0) (lkW 1 (fun _ => 0) 4607182418800017408) (fun _ => 0) (fun _ => 0) 0 0 6 6 6 12 (fun _ => 0) (lkW 1 (fun _ => 0) 4607182418800017408) (fun _ => 0) (fun _ => 0) 0 0 = true := by
    unfold eqS
    rw [eqL_yes (fun _ _ => rfl), eqL_yes (fun _ _ => rfl), eqL_yes (fun _ _ => rfl), eqL_yes (fun _ _ => rfl)]
    rfl
  rw [e1] at S1
  clear e1
  go_wp2_with fail
  refine S1.out.mono ?_
  rintro e9 v12 ⟨rfl, k12⟩
  have B12 : Hid (Ab V11 v12) := k12
  clear k12 S1 x0 x1 x2 x3 x4 x5 y0 y1 y2 y3 y4 y5 z0 z1 z2 z3 z4 z5
  have AL2 : Hid (Ab V5 v12) := AL.out.trans B12.out
  have AT2 : Hid (Ab V9 v12) := AT.out.trans B12.out
  have x0 := cell_of_row _ _ 0 _ _ _ (AL2.out.heap RL.out)
  have x1 := cell_of_row _ _ 1 _ _ _ (AL2.out.heap RL.out)
  have x2 := cell_of_row _ _ 2 _ _ _ (AL2.out.heap RL.out)
  have x3 := cell_of_row _ _ 3 _ _ _ (AL2.out.heap RL.out)
  have x4 := cell_of_row _ _ 4 _ _ _ (AL2.out.heap RL.out)
  have x5 := cell_of_row _ _ 5 _ _ _ (AL2.out.heap RL.out)
  have y0 := cell_of_row _ _ 0 _ _ _ (AT2.out.heap RU.out)
  have y1 := cell_of_row _ _ 1 _ _ _ (AT2.out.heap RU.out)
  have y2 := cell_of_row _ _ 2 _ _ _ (AT2.out.heap RU.out)
  have y3 := cell_of_row _ _ 3 _ _ _ (AT2.out.heap RU.out)
  have y4 := cell_of_row _ _ 4 _ _ _ (AT2.out.heap RU.out)
  have y5 := cell_of_row _ _ 5 _ _ _ (AT2.out.heap RU.out)
  have S2 := hid (HS.out p1 6 c1 (fun _ => 0) (some ⟨qb2, qo2, none⟩) 6 c2 (lkW 1 (fun _ => 0) 4607182418800017408) p3 6 c3 (fun _ => 0) p4 12 c4 (fun _ => 0) 0 0 q1 6 d1 (fun _ => 0) q2 6 d2 (lkW 1 (fun _ => 0) 4607182418800017408) q3 6 d3 (fun _ => 0) (some ⟨g, 0, none⟩) 12 d4 awS 0 0 v12 (by omega) (by omega) (N1.out.below AL2.out) (N2.out.below AL2.out) (N3.out.below AL2.out) (N4.out.below AL2.out) (U1.out.below AT2.out) (U2.out.below AT2.out) (U3.out.below AT2.out) (U4.out.below AT2.out))
  have e2 : eqS 6 6 6 12 (fun _ => 0) (lkW 1 (fun _ => 0) 4607182418800017408) (fun _ => 0) (fun _ => 0) 0 0 6 6 6 12 (fun _ => 0) (lkW 1 (fun _ => 0) 4607182418800017408) (fun _ => 0) awS 0 0 = false := by
    unfold eqS
    rw [eqL_no (n := 12) (m := 12) (f := fun _ => 0) (g := awS) (k := 0) (by omega) (by decide), Bool.and_false]
    rfl
  rw [e2] at S2
  clear e2
  go_wp2_with fail
  refine S2.out.mono ?_
  rintro e9 v13 ⟨rfl, k13⟩
  have B13 : Hid (Ab v12 v13) := k13
  clear k13 S2
  go_wp2
  go_ret
  exact ⟨rfl, AE.out.trans (B12.out.trans B13.out)⟩
end Ss
end Go.Proofs.YtdigecacmibkpaaGreatDoor

namespace Go.Proofs.YtdigecacmibkpaaGreatDoor
open Go.RowKit Tf Cu Go.Deep
namespace Ss
def OV (t : TypeId) (B : Nat) (v : Value) (l : List Value) (w : World) : Prop := w.ownsRow B t 1 v l.length l
theorem OV.blk {t : TypeId} {B : Nat} {v : Value} {l : List Value} {w : World} (h : OV t B v l w) {k : Nat} (hk : v.ownBlock = some k) : B <= k /\ k < w.heap.size := World.ownsRow.lt h k hk
theorem OV.at {t : TypeId} {B : Nat} {v : Value} {l : List Value} {w : World} (h : OV t B v l w) {c : Nat} (hc : c < l.length) :
    ∃ g cap, v = .slice (some ⟨g, 0, none⟩) l.length cap /\ w.cell? ⟨g, c, none⟩ = some (l[c]) /\ w.frozen? ⟨g, c, none⟩ = false /\ ∀ x, OV t B v (l.set c x) (w.setCell ⟨g, c, none⟩ x) := by
  rcases h.2 with ⟨q, e⟩ | ⟨g, cap, cur, q, hb, hg, h1, h2, h3, h4⟩
  · omega
  · have e2 := World.ownsRow.cells (g := g) h (by rw [q]; rfl) c (l[c]) (by simp [hc])
    rw [Sh.add_off, Nat.zero_add] at e2
    refine ⟨g, cap, q, e2, by simp [World.frozen?, hg], fun x => ⟨by simp, .inr ⟨g, cap, cur.setIfInBounds c x, by rw [List.length_set]; exact q, hb, one_set hg, by rw [List.length_set]; exact h1, h2, by simpa using h3, ?_⟩⟩⟩
    rw [List.length_set, Array.toList_setIfInBounds, List.take_set, h4]
theorem OV.blkeq {t : TypeId} {B : Nat} {v : Value} {l : List Value} {w w' : World} (h : OV t B v l w) (e : ∀ k, v.ownBlock = some k -> w'.heap[k]? = w.heap[k]?) : OV t B v l w' := by
  rcases h.2 with ⟨q, e2⟩ | ⟨g, cap, cur, q, hb, hg, rest⟩
  · exact ⟨h.1, .inl ⟨q, e2⟩⟩
  · exact ⟨h.1, .inr ⟨g, cap, cur, q, hb, (e g (by rw [q]; rfl)).trans hg, rest⟩⟩
theorem OV.other {t : TypeId} {B : Nat} {v : Value} {l : List Value} {w : World} (h : OV t B v l w) {g c : Nat} (u : Value) (hg : v.ownBlock ≠ some g) : OV t B v l (w.setCell ⟨g, c, none⟩ u) := h.blkeq (fun k hk => Below.heap_setCell _ _ _ _ (fun e => hg (by have e2 : k = g := e; rw [<- e2]; exact hk)))
theorem OV.grown {t : TypeId} {B : Nat} {v : Value} {l : List Value} {w w' : World} {row : Option Nat} (h : OV t B v l w) (x : w.grownBy w' row) (hg : ∀ k, v.ownBlock = some k -> row ≠ some k) : OV t B v l w' := h.blkeq (fun k hk => x.block k (h.blk hk).2 (fun e => hg k hk e.symm))
theorem OV.to {t : TypeId} {B : Nat} {v : Value} {l : List Value} {w w' : World} (h : OV t B v l w) (a : Ab w w') : OV t B v l w' := h.blkeq (fun k hk => a.block k (h.blk hk).2)
theorem AbQ.trans {V W w : World} {P : Nat -> Prop} (h : Rv.AbQ V P W) (k : Rv.AbQ W P w) : Rv.AbQ V P w := by
  obtain ⟨h1, h2, h3, h4, h5⟩ := h
  obtain ⟨k1, k2, k3, k4, k5⟩ := k
  exact ⟨k1.trans h1, k2.trans h2, k3.trans h3, Nat.le_trans h4 k4, fun i hi hp => (k5 i (by omega) hp).trans (h5 i hi hp)⟩
def K20 (V : World) (B : Nat) (P : Nat -> Prop) (l1 l2 l3 l4 : List Value) (v1 v2 v3 v4 : Value) (w : World) : Prop :=
  Rv.AbQ V P w /\ OV 22 B v1 l1 w /\ OV 2 B v2 l2 w /\ OV 2 B v3 l3 w /\ OV 22 B v4 l4 w /\ (Dj v1 v2 /\ Dj v1 v3 /\ Dj v1 v4 /\ Dj v2 v3 /\ Dj v2 v4 /\ Dj v3 v4) /\ (∀ k, v1.ownBlock = some k -> P k \/ V.heap.size <= k) /\ (∀ k, v2.ownBlock = some k -> P k \/ V.heap.size <= k) /\ (∀ k, v3.ownBlock = some k -> P k \/ V.heap.size <= k) /\ (∀ k, v4.ownBlock = some k -> P k \/ V.heap.size <= k)
theorem K20.set1 {V : World} {B : Nat} {P : Nat -> Prop} {l1 l2 l3 l4 : List Value} {v1 v2 v3 v4 : Value} {w : World} (h : K20 V B P l1 l2 l3 l4 v1 v2 v3 v4 w) {c : Nat} (hc : c < l1.length) :
    ∃ g cap, v1 = .slice (some ⟨g, 0, none⟩) l1.length cap /\ w.cell? ⟨g, c, none⟩ = some (l1[c]) /\ w.frozen? ⟨g, c, none⟩ = false /\ ∀ x, K20 V B P (l1.set c x) l2 l3 l4 v1 v2 v3 v4 (w.setCell ⟨g, c, none⟩ x) := by
  obtain ⟨q, h1, h2, h3, h4, ⟨d12, d13, d14, d23, d24, d34⟩, p1, p2, p3, p4⟩ := h
  obtain ⟨g, cap, e, k1, k2, s⟩ := h1.at hc
  have gx : v1.ownBlock = some g := by rw [e]; rfl
  exact ⟨g, cap, e, k1, k2, fun x => ⟨q.set (p1 g gx) _, s x, OV.other h2 _ (d12 g gx), OV.other h3 _ (d13 g gx), OV.other h4 _ (d14 g gx), ⟨d12, d13, d14, d23, d24, d34⟩, p1, p2, p3, p4⟩⟩
theorem K20.set2 {V : World} {B : Nat} {P : Nat -> Prop} {l1 l2 l3 l4 : List Value} {v1 v2 v3 v4 : Value} {w : World} (h : K20 V B P l1 l2 l3 l4 v1 v2 v3 v4 w) {c : Nat} (hc : c < l2.length) :
    ∃ g cap, v2 = .slice (some ⟨g, 0, none⟩) l2.length cap /\ w.cell? ⟨g, c, none⟩ = some (l2[c]) /\ w.frozen? ⟨g, c, none⟩ = false /\ ∀ x, K20 V B P l1 (l2.set c x) l3 l4 v1 v2 v3 v4 (w.setCell ⟨g, c, none⟩ x) := by
  obtain ⟨q, h1, h2, h3, h4, ⟨d12, d13, d14, d23, d24, d34⟩, p1, p2, p3, p4⟩ := h
  obtain ⟨g, cap, e, k1, k2, s⟩ := h2.at hc
  have gx : v2.ownBlock = some g := by rw [e]; rfl
  exact ⟨g, cap, e, k1, k2, fun x => ⟨q.set (p2 g gx) _, OV.other h1 _ (fun e => d12 g e gx), s x, OV.other h3 _ (d23 g gx), OV.other h4 _ (d24 g gx), ⟨d12, d13, d14, d23, d24, d34⟩, p1, p2, p3, p4⟩⟩
theorem K20.set3 {V : World} {B : Nat} {P : Nat -> Prop} {l1 l2 l3 l4 : List Value} {v1 v2 v3 v4 : Value} {w : World} (h : K20 V B P l1 l2 l3 l4 v1 v2 v3 v4 w) {c : Nat} (hc : c < l3.length) :
    ∃ g cap, v3 = .slice (some ⟨g, 0, none⟩) l3.length cap /\ w.cell? ⟨g, c, none⟩ = some (l3[c]) /\ w.frozen? ⟨g, c, none⟩ = false /\ ∀ x, K20 V B P l1 l2 (l3.set c x) l4 v1 v2 v3 v4 (w.setCell ⟨g, c, none⟩ x) := by
  obtain ⟨q, h1, h2, h3, h4, ⟨d12, d13, d14, d23, d24, d34⟩, p1, p2, p3, p4⟩ := h
  obtain ⟨g, cap, e, k1, k2, s⟩ := h3.at hc
  have gx : v3.ownBlock = some g := by rw [e]; rfl
  exact ⟨g, cap, e, k1, k2, fun x => ⟨q.set (p3 g gx) _, OV.other h1 _ (fun e => d13 g e gx), OV.other h2 _ (fun e => d23 g e gx), s x, OV.other h4 _ (d34 g gx), ⟨d12, d13, d14, d23, d24, d34⟩, p1, p2, p3, p4⟩⟩
end Ss
end Go.Proofs.YtdigecacmibkpaaGreatDoor

namespace Go.Proofs.YtdigecacmibkpaaGreatDoor
open Go.RowKit Tf Cu Go.Deep
attribute [local go_sem] run_bits run_from raw_feq raw_fne raw_flt raw_fgt run_neg run_store_float
namespace Ss
def AllF (l : List Value) : Prop := ∀ i (h : i < l.length), ∃ y, l[i] = .float .f64 y
def AllI (l : List Value) : Prop := ∀ i (h : i < l.length), ∃ y, l[i] = .int .i64 y
theorem AllF.set {l : List Value} (h : AllF l) (c y : Nat) : AllF (l.set c (.float .f64 y)) := fun i hi => by
  rw [List.length_set] at hi
  by_cases e : c = i
  · subst e; exact ⟨y, by simp⟩
  · obtain ⟨z, hz⟩ := h i hi
    exact ⟨z, by rw [List.getElem_set_ne e]; exact hz⟩
theorem AllI.set {l : List Value} (h : AllI l) (c : Nat) (y : Int) : AllI (l.set c (.int .i64 y)) := fun i hi => by
  rw [List.length_set] at hi
  by_cases e : c = i
  · subst e; exact ⟨y, by simp⟩
  · obtain ⟨z, hz⟩ := h i hi
    exact ⟨z, by rw [List.getElem_set_ne e]; exact hz⟩
theorem K20.to {V : World} {B : Nat} {P : Nat -> Prop} {l1 l2 l3 l4 : List Value} {v1 v2 v3 v4 : Value} {w w' : World} (h : K20 V B P l1 l2 l3 l4 v1 v2 v3 v4 w) (a : Ab w w') : K20 V B P l1 l2 l3 l4 v1 v2 v3 v4 w' := by
  obtain ⟨q, h1, h2, h3, h4, d, p⟩ := h
  exact ⟨q.to a, h1.to a, h2.to a, h3.to a, h4.to a, d, p⟩
end Ss
end Go.Proofs.YtdigecacmibkpaaGreatDoor

namespace Go.Proofs.YtdigecacmibkpaaGreatDoor
open Go.RowKit Tf Cu Go.Deep
attribute [local go_sem] run_bits run_from raw_feq raw_fne raw_flt raw_fgt run_neg run_store_float
namespace Ss
theorem eqL_self {α : Type} [DecidableEq α] (n : Nat) (f : Nat -> α) : eqL n n f f = true := by
  unfold eqL
  exact decide_eq_true ⟨rfl, fun _ _ => rfl⟩
theorem eqS_self (lb lw lt ls : Nat) (B : Nat -> Nat) (W T : Nat -> Int) (S : Nat -> Nat) (sky st : Int) : eqS lb lw lt ls B W T S sky st lb lw lt ls B W T S sky st = true := by
  unfold eqS
  rw [eqL_self, eqL_self, eqL_self, eqL_self]
  simp
theorem dj_ty {t t' : TypeId} {M M' : Nat} {v u : Value} {l l' : List Value} {w : World} (h : OV t M v l w) (k : OV t' M' u l' w) (ne : t ≠ t') : Dj v u := fun b h1 h2 => by
  rcases h.2 with ⟨rfl, _⟩ | ⟨g, cap, cur, rfl, _, hg, _⟩
  · cases h1
  · rcases k.2 with ⟨rfl, _⟩ | ⟨g', cap', cur', rfl, _, hg', _⟩
    · cases h2
    · simp only [Value.ownBlock, Option.some.injEq] at h1 h2
      subst h1
      subst h2
      rw [hg] at hg'
      injection hg' with e
      injection e with _ e2
      exact ne e2
theorem ovF {M n : Nat} {f : Nat -> Nat} {v : Value} {w : World} (h : OwnG M v ((List.range n).map f) w) : OV 22 M v (((List.range n).map f).map (Value.float .f64)) w := by
  unfold OV
  rw [List.length_map]
  exact h
theorem ovI {M n : Nat} {f : Nat -> Int} {v : Value} {w : World} (h : Sh.Own M v ((List.range n).map f) w) : OV 2 M v (((List.range n).map f).map (Value.int .i64)) w := by
  unfold OV
  rw [List.length_map]
  exact h
theorem own_k20 {M : Nat} {v : Value} {lb lw lt ls : Nat} {B : Nat -> Nat} {W T : Nat -> Int} {S : Nat -> Nat} {sky st : Int} {w : World} (h : OwnS M v lb lw lt ls B W T S sky st w) (hB : ∀ i, i < lb -> B i < 18446744073709551616) (hW : ∀ i, i < lw -> Sh.W64 (W i)) (hT : ∀ i, i < lt -> Sh.W64 (T i)) (hS : ∀ i, i < ls -> S i < 18446744073709551616) :
    ∃ p1 c1 p2 c2 p3 c3 p4 c4, v = .agg #[.slice p1 lb c1, .slice p2 lw c2, .slice p3 lt c3, .slice p4 ls c4, .int .i64 sky, .int .i64 st] /\ (IsFl w p1 lb B /\ Sh.IsI w p2 lw W /\ Sh.IsI w p3 lt T /\ IsFl w p4 ls S) /\ (OV 22 M (.slice p1 lb c1) (((List.range lb).map B).map (Value.float .f64)) w /\ OV 2 M (.slice p2 lw c2) (((List.range lw).map W).map (Value.int .i64)) w /\ OV 2 M (.slice p3 lt c3) (((List.range lt).map T).map (Value.int .i64)) w /\ OV 22 M (.slice p4 ls c4) (((List.range ls).map S).map (Value.float .f64)) w) /\ (Dj (.slice p1 lb c1) (.slice p2 lw c2) /\ Dj (.slice p1 lb c1) (.slice p3 lt c3) /\ Dj (.slice p1 lb c1) (.slice p4 ls c4) /\ Dj (.slice p2 lw c2) (.slice p3 lt c3) /\ Dj (.slice p2 lw c2) (.slice p4 ls c4) /\ Dj (.slice p3 lt c3) (.slice p4 ls c4)) := by
  obtain ⟨p1, c1, p2, c2, p3, c3, p4, c4, rfl, i1, i2, i3, i4, o2, o3, o1, o4, d14⟩ := own_sea h hB hW hT hS
  have d23 : Dj (.slice p2 lw c2) (.slice p3 lt c3) := by
    obtain ⟨v1, v2, v3, v4, e, -, -, -, -, -, d⟩ := h
    simp only [Value.agg.injEq, Array.mk.injEq, List.cons.injEq] at e
    rw [e.2.1, e.2.2.1]
    exact d
  exact ⟨p1, c1, p2, c2, p3, c3, p4, c4, rfl, ⟨i1, i2, i3, i4⟩, ⟨ovF o1, ovI o2, ovI o3, ovF o4⟩, dj_ty (ovF o1) (ovI o2) (by decide), dj_ty (ovF o1) (ovI o3) (by decide), d14, d23, dj_ty (ovI o2) (ovF o4) (by decide), dj_ty (ovI o3) (ovF o4) (by decide)⟩
end Ss
end Go.Proofs.YtdigecacmibkpaaGreatDoor
