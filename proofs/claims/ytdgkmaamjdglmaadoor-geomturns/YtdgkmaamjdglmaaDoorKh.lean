/-
  Which side a way goes over; which cell a middle belongs to: contracts.
-/
import Derived.Test.YtdgkmaamjdglmaaDoorKf
import Derived.Test.YtdgkmaamjdglmaaDoorKp
namespace Go.Proofs.YtdgkmaamjdglmaaDoor
open Go.RowKit Cu
theorem wr6 {x : Int} (h : -1000000 ≤ x ∧ x ≤ 1000000) : wrap64 x = x := by unfold wrap64; omega
theorem below_wr {w W w' : World} (h : Ab w W) (b : Below W.heap.size W w') : Below w.heap.size w w' := h.call b
set_option maxHeartbeats 2000000 in
theorem sideOf_at (f s : Nat) (p : P3) (w : World) (hf : f < 6) (hs : s < 4) (hp : wy f s = p) (h : Fr w) :
    Calls Tryd.prog 32 #[.int .i64 f, .agg #[.int .i64 p.1, .int .i64 p.2.1, .int .i64 p.2.2]] w fun e w' => e = .returned (.int .i64 s) ∧ Below w.heap.size w w' := by
  have hmf : ∀ (fn : Fn) (first cap : Array Value) (w : World), (Instr.makeFunc fn first cap).run Tryd.prog w = .ok (.func fn first cap) w := fun _ _ _ _ => rfl
  have A1 : Ab w ((w.alloc (.cells #[.int .i64 f] 3)).alloc (.cells #[.int .i64 p.1, .int .i64 p.2.1, .int .i64 p.2.2] 53)) := bl2 _ _ _
  have L := hid (least_s 4 s (fun k => decide (wy f k = p)) w.heap.size (w.heap.size + 1) ((w.alloc (.cells #[.int .i64 f] 3)).alloc (.cells #[.int .i64 p.1, .int .i64 p.2.1, .int .i64 p.2.2] 53)) (by decide) (by omega) (by simp [hp])
    (fun k hk => by simp only [decide_eq_false_iff_not]; intro e; have := wy_inj f hf s hs k (by omega) (e.trans hp.symm); omega)
    (hid (fun k hk w' hw => sideOf1_at k f p w.heap.size (w.heap.size + 1) w' hk hf (h.to (A1.trans hw)) (Nat.lt_of_lt_of_le (by simp; omega) hw.size) (Nat.lt_of_lt_of_le (by simp) hw.size)
      (pc_row (hw.heap (heap_alloc2_new _ _ _))) (cell_of_row _ _ 0 _ _ _ (hw.heap (heap_alloc2_old _ _ _))))))
  have AW := hid A1
  clear hp h A1
  go_enter Tryd.func32, Tryd.ntmps32
  go_wp2_with fail
  refine L.out.mono ?_
  rintro e w1 ⟨rfl, b1⟩
  go_wp2
  go_ret
  exact ⟨rfl, below_wr AW.out b1⟩
set_option maxHeartbeats 4000000 in
theorem under_at (n f i j : Nat) (p : P3) (w : World) (hn : 1 ≤ n ∧ n ≤ 32) (hf : f < 6) (hi : i < n) (hj : j < n) (hp : md n f i j = p) (h : Fr w) :
    Calls Tryd.prog 30 #[.int .i64 n, .agg #[.int .i64 p.1, .int .i64 p.2.1, .int .i64 p.2.2]] w fun e w' => e = .returned (.tuple #[.int .i64 f, .int .i64 i, .int .i64 j]) ∧ Below w.heap.size w w' := by
  have hmf : ∀ (fn : Fn) (first cap : Array Value) (w : World), (Instr.makeFunc fn first cap).run Tryd.prog w = .ok (.func fn first cap) w := fun _ _ _ _ => rfl
  have A1 : Ab w ((w.alloc (.cells #[.int .i64 n] 3)).alloc (.cells #[.int .i64 p.1, .int .i64 p.2.1, .int .i64 p.2.2] 53)) := bl2 _ _ _
  have hm := md_le hf hi hj hn.2
  rw [hp] at hm
  have hsm : Sm p := by unfold Sm; omega
  have hd := md_dt (n := n) (i := i) (j := j) hf
  rw [hp] at hd
  have L := hid (least_u 6 f (fun k => decide (dt p (cC k) = n)) (w.heap.size + 1) w.heap.size ((w.alloc (.cells #[.int .i64 n] 3)).alloc (.cells #[.int .i64 p.1, .int .i64 p.2.1, .int .i64 p.2.2] 53)) (by decide) (by omega) (by simp [hd.1])
    (fun k hk => by simp only [decide_eq_false_iff_not]; rw [← hp, md_face hf (by omega) hi hj]; omega)
    (hid (fun k hk w' hw => under1_at k n p (w.heap.size + 1) w.heap.size w' hk hsm (h.to (A1.trans hw)) (Nat.lt_of_lt_of_le (by simp) hw.size) (Nat.lt_of_lt_of_le (by simp; omega) hw.size)
      (pc_row (hw.heap (heap_alloc2_new _ _ _))) (cell_of_row _ _ 0 _ _ _ (hw.heap (heap_alloc2_old _ _ _))))))
  have T1 : Hid (∀ w, Calls Tryd.prog 29 #[.agg #[.int .i64 p.1, .int .i64 p.2.1, .int .i64 p.2.2], .agg #[.int .i64 (cR f).1, .int .i64 (cR f).2.1, .int .i64 (cR f).2.2]] w fun e w' => e = .returned (.int .i64 (2 * i + 1 - n)) ∧ Below w.heap.size w w') := fun w => by rw [← hd.2.1]; exact along_at p (cR f) w hsm (un_R hf)
  have T2 : Hid (∀ w, Calls Tryd.prog 29 #[.agg #[.int .i64 p.1, .int .i64 p.2.1, .int .i64 p.2.2], .agg #[.int .i64 (cU f).1, .int .i64 (cU f).2.1, .int .i64 (cU f).2.2]] w fun e w' => e = .returned (.int .i64 (2 * j + 1 - n)) ∧ Below w.heap.size w w') := fun w => by rw [← hd.2.2]; exact along_at p (cU f) w hsm (un_U hf)
  have AW := hid A1
  have HH := hid h
  have hf' : (f : Int) < 6 := by omega
  have V1 : Hid (wrap64 ((wrap64 (wrap64 (2 * (i : Int) + 1) - 1)).tdiv 2) = i) := by
    show _ = _
    rw [wr6 (x := 2 * (i : Int) + 1) (by omega), show 2 * (i : Int) + 1 - 1 = 2 * i by omega, wr6 (x := 2 * (i : Int)) (by omega), Int.mul_tdiv_cancel_left _ (by decide)]; exact wr6 (by omega)
  have V2 : Hid (wrap64 ((wrap64 (wrap64 (2 * (j : Int) + 1) - 1)).tdiv 2) = j) := by
    show _ = _
    rw [wr6 (x := 2 * (j : Int) + 1) (by omega), show 2 * (j : Int) + 1 - 1 = 2 * j by omega, wr6 (x := 2 * (j : Int)) (by omega), Int.mul_tdiv_cancel_left _ (by decide)]; exact wr6 (by omega)
  have HN := hid hn
  have H0 := h.1
  clear hp h A1 hd hsm hm hn hi hj
  go_enter Tryd.func30, Tryd.ntmps30
  go_wp2_with fail
  refine L.out.mono ?_
  rintro e w1 ⟨rfl, b1⟩
  have A2 : Ab w w1 := below_wr AW.out b1
  obtain ⟨⟨k0, k1, k2⟩, ⟨k3, k4, k5⟩, ⟨k6, k7, k8⟩⟩ := (HH.out.to A2).2 f (by omega)
  have hz : 0 < w1.heap.size := Nat.lt_of_lt_of_le H0 A2.size
  have B1 := hid b1
  have A2' := hid A2
  clear b1 A2 L HN
  go_upto_region 3 with fail
  generalize hW : World.alloc w1 _ = W
  have A3 : Ab w1 W := by rw [← hW]; exact bl1 _ _
  have r8 : W.heap[w1.heap.size]? = some (.cells #[.int .i64 (cC f).1, .int .i64 (cC f).2.1, .int .i64 (cC f).2.2, .int .i64 (cR f).1, .int .i64 (cR f).2.1, .int .i64 (cR f).2.2, .int .i64 (cU f).1, .int .i64 (cU f).2.1, .int .i64 (cU f).2.2] 60) := by rw [← hW]; exact heap_alloc_new _ _
  have A4 : Ab ((w.alloc (.cells #[.int .i64 n] 3)).alloc (.cells #[.int .i64 p.1, .int .i64 p.2.1, .int .i64 p.2.2] 53)) W := Ab.trans B1.out A3
  have r3 := A4.heap (heap_alloc2_new _ _ _)
  have r2 := A4.heap (heap_alloc2_old _ _ _)
  obtain ⟨U, F, hF1, hF2⟩ := cls W
  have HF := hid hF2
  have HF1 := hid hF1
  have x0 : ∀ u, (F u).cell? ⟨w.heap.size + 1, 0, none⟩ = some (.int .i64 p.1) := fun u => cell_of_row _ _ 0 _ _ _ ((hF1 u).heap r3)
  have x1 : ∀ u, (F u).cell? ⟨w.heap.size + 1, 1, none⟩ = some (.int .i64 p.2.1) := fun u => cell_of_row _ _ 1 _ _ _ ((hF1 u).heap r3)
  have x2 : ∀ u, (F u).cell? ⟨w.heap.size + 1, 2, none⟩ = some (.int .i64 p.2.2) := fun u => cell_of_row _ _ 2 _ _ _ ((hF1 u).heap r3)
  have x3 : ∀ u, (F u).cell? ⟨w.heap.size, 0, none⟩ = some (.int .i64 n) := fun u => cell_of_row _ _ 0 _ _ _ ((hF1 u).heap r2)
  have y0 : ∀ u, (F u).cell? ⟨w1.heap.size, 3, none⟩ = some (.int .i64 (cR f).1) := fun u => cell_of_row _ _ 3 _ _ _ ((hF1 u).heap r8)
  have z0 : ∀ u, (F u).cell? ⟨w1.heap.size, 6, none⟩ = some (.int .i64 (cU f).1) := fun u => cell_of_row _ _ 6 _ _ _ ((hF1 u).heap r8)
  have y1 : ∀ u, (F u).cell? ⟨w1.heap.size, 4, none⟩ = some (.int .i64 (cR f).2.1) := fun u => cell_of_row _ _ 4 _ _ _ ((hF1 u).heap r8)
  have z1 : ∀ u, (F u).cell? ⟨w1.heap.size, 7, none⟩ = some (.int .i64 (cU f).2.1) := fun u => cell_of_row _ _ 7 _ _ _ ((hF1 u).heap r8)
  have y2 : ∀ u, (F u).cell? ⟨w1.heap.size, 5, none⟩ = some (.int .i64 (cR f).2.2) := fun u => cell_of_row _ _ 5 _ _ _ ((hF1 u).heap r8)
  have z2 : ∀ u, (F u).cell? ⟨w1.heap.size, 8, none⟩ = some (.int .i64 (cU f).2.2) := fun u => cell_of_row _ _ 8 _ _ _ ((hF1 u).heap r8)
  have D := HF.out _ (Ab.refl W).drew
  have AA := hid (A2'.out.trans A3)
  clear hF1 hF2 r2 r3 r8 k0 k1 k2 k3 k4 k5 k6 k7 k8 A3 A4 hW B1 A2'
  refine region_cls F (by kernel_rfl) (by kernel_rfl) D ?_
  repeat (go_big_quiet_step (first | rfl | (go_at_call_of 29 (cR f); exact calls_cls HF HF1 (T1.out _)) | (go_at_call_of 29 (cU f); exact calls_cls HF HF1 (T2.out _))))
  refine wpQuiet_nil ?_
  intro wz hwz
  obtain ⟨u, rfl⟩ := hwz
  go_wp2
  refine bodyPost_ret (v := .tuple #[.int .i64 f, .int .i64 i, .int .i64 j]) (by simp [results, Tryd.results30, go_sem, V1.out, V2.out]) rfl ⟨rfl, AA.out.trans (HF1.out u)⟩
end Go.Proofs.YtdgkmaamjdglmaaDoor
