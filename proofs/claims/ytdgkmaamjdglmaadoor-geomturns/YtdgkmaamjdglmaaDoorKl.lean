/-
  Turns of a cell, and turns one behind the other: contracts.
-/
import Derived.Test.YtdgkmaamjdglmaaDoorKk
namespace Go.Proofs.YtdgkmaamjdglmaaDoor
open Go.RowKit Cu
theorem un_rX : ∀ t < 24, ((-1 ≤ (rX t).1 ∧ (rX t).1 ≤ 1) ∧ (-1 ≤ (rX t).2.1 ∧ (rX t).2.1 ≤ 1) ∧ (-1 ≤ (rX t).2.2 ∧ (rX t).2.2 ≤ 1)) := by decide +kernel
theorem un_rY : ∀ t < 24, ((-1 ≤ (rY t).1 ∧ (rY t).1 ≤ 1) ∧ (-1 ≤ (rY t).2.1 ∧ (rY t).2.1 ≤ 1) ∧ (-1 ≤ (rY t).2.2 ∧ (rY t).2.2 ≤ 1)) := by decide +kernel
theorem un_rZ : ∀ t < 24, ((-1 ≤ (rZ t).1 ∧ (rZ t).1 ≤ 1) ∧ (-1 ≤ (rZ t).2.1 ∧ (rZ t).2.1 ≤ 1) ∧ (-1 ≤ (rZ t).2.2 ∧ (rZ t).2.2 ≤ 1)) := by decide +kernel
set_option maxHeartbeats 8000000 in
theorem turn_go (n c f i j t f2 i2 j2 q : Nat) (p r o : P3) (w : World) (hn : 1 ≤ n ∧ n ≤ 32) (hf : f < 6) (hi : i < n) (hj : j < n) (ht : t < 24) (hf2 : f2 < 6) (hi2 : i2 < n) (hj2 : j2 < n) (hq : q < 4) (h : Fr w)
    (PL : Hid (∀ w, Calls Tryd.prog 23 #[.int .i64 n, .int .i64 c] w fun e w' => e = .returned (.tuple #[.int .i64 f, .int .i64 i, .int .i64 j, .bool true]) ∧ ∃ k, w' = w.drewN k))
    (hp : md n f i j = p) (hr : md n f2 i2 j2 = r) (hpr : ro t p = r) (ho : wy f2 q = o) (hro : ro t (cR f) = o) :
    Calls Tryd.prog 17 #[.int .i64 n, .int .i64 t, .int .i64 c] w fun e w' => e = .returned (.tuple #[.int .i64 (cN n f2 i2 j2), .int .i64 q]) ∧ Below w.heap.size w w' := by
  have CT : Hid (∀ w, Calls Tryd.prog 24 #[.int .i64 t, .int .i64 24] w fun e w' => e = .returned (.bool true) ∧ w' = w) := fun w => by
    have := counts_at t 24 w
    rwa [show inR t 24 = true by rw [inR_iff]; omega] at this
  have RO := hid (fun (u : World) (hu : Ab w u) => rotationOf_at t u ht (h.to hu))
  have MI : Hid (∀ u, Ab w u → Calls Tryd.prog 26 #[.int .i64 n, .int .i64 f, .int .i64 i, .int .i64 j] u fun e w' => e = .returned (.agg #[.int .i64 p.1, .int .i64 p.2.1, .int .i64 p.2.2]) ∧ Below u.heap.size u w') := fun u hu => by
    rw [← hp]; exact middle_at n f i j u (by omega) hf (by omega) (by omega) (h.to hu)
  have hm := md_le hf hi hj hn.2
  rw [hp] at hm
  have OF : Hid (∀ u, Calls Tryd.prog 40 #[.agg #[.int .i64 (rX t).1, .int .i64 (rX t).2.1, .int .i64 (rX t).2.2, .int .i64 (rY t).1, .int .i64 (rY t).2.1, .int .i64 (rY t).2.2, .int .i64 (rZ t).1, .int .i64 (rZ t).2.1, .int .i64 (rZ t).2.2], .agg #[.int .i64 p.1, .int .i64 p.2.1, .int .i64 p.2.2]] u fun e w' => e = .returned (.agg #[.int .i64 r.1, .int .i64 r.2.1, .int .i64 r.2.2]) ∧ Below u.heap.size u w') := fun u => by
    rw [← hpr]; exact of_at (rX t) (rY t) (rZ t) p u (un_rX t ht) (un_rY t ht) (un_rZ t ht) (by omega)
  have UN : Hid (∀ u, Ab w u → Calls Tryd.prog 30 #[.int .i64 n, .agg #[.int .i64 r.1, .int .i64 r.2.1, .int .i64 r.2.2]] u fun e w' => e = .returned (.tuple #[.int .i64 f2, .int .i64 i2, .int .i64 j2]) ∧ Below u.heap.size u w') := fun u hu => under_at n f2 i2 j2 r u hn hf2 hi2 hj2 hr (h.to hu)
  have CE := hid (fun u => cell_at n f2 i2 j2 u)
  have WY : Hid (∀ u, Ab w u → Calls Tryd.prog 25 #[.int .i64 f, .int .i64 0] u fun e w' => e = .returned (.agg #[.int .i64 (cR f).1, .int .i64 (cR f).2.1, .int .i64 (cR f).2.2]) ∧ Below u.heap.size u w') := fun u hu => way_at f 0 u hf (by omega) (h.to hu)
  have OE : Hid (∀ u, Calls Tryd.prog 40 #[.agg #[.int .i64 (rX t).1, .int .i64 (rX t).2.1, .int .i64 (rX t).2.2, .int .i64 (rY t).1, .int .i64 (rY t).2.1, .int .i64 (rY t).2.2, .int .i64 (rZ t).1, .int .i64 (rZ t).2.1, .int .i64 (rZ t).2.2], .agg #[.int .i64 (cR f).1, .int .i64 (cR f).2.1, .int .i64 (cR f).2.2]] u fun e w' => e = .returned (.agg #[.int .i64 o.1, .int .i64 o.2.1, .int .i64 o.2.2]) ∧ Below u.heap.size u w') := fun u => by
    rw [← hro]; exact of_at (rX t) (rY t) (rZ t) (cR f) u (un_rX t ht) (un_rY t ht) (un_rZ t ht) (un_R hf).le
  have SD : Hid (∀ u, Ab w u → Calls Tryd.prog 32 #[.int .i64 f2, .agg #[.int .i64 o.1, .int .i64 o.2.1, .int .i64 o.2.2]] u fun e w' => e = .returned (.int .i64 q) ∧ Below u.heap.size u w') := fun u hu => sideOf_at f2 q o u hf2 hq ho (h.to hu)
  clear hm hp hr hpr ho hro h
  go_enter Tryd.func17, Tryd.ntmps17
  go_upto_region 4 with (first
    | (go_at_call 23; refine (PL.out _).mono ?_; rintro e w' ⟨rfl, k, rfl⟩)
    | (go_at_call 24; refine (CT.out _).mono ?_; rintro e w' ⟨rfl, rfl⟩))
  have A1 : Ab w (w.drewN k) := (Ab.refl w).drewN k
  go_wp2_with fail
  refine (RO.out _ A1).mono ?_
  rintro e w1 ⟨rfl, b1⟩
  have A2 := hid (A1.call b1)
  clear b1 A1 PL CT RO
  go_upto_region 5 with fail
  generalize hW : World.alloc w1 _ = W
  obtain ⟨g, hg⟩ : ∃ g, w1.heap.size = g := ⟨_, rfl⟩
  have r12 : W.heap[g]? = some (.cells #[.int .i64 (rX t).1, .int .i64 (rX t).2.1, .int .i64 (rX t).2.2, .int .i64 (rY t).1, .int .i64 (rY t).2.1, .int .i64 (rY t).2.2, .int .i64 (rZ t).1, .int .i64 (rZ t).2.1, .int .i64 (rZ t).2.2] 75) := by rw [← hW, ← hg]; exact heap_alloc_new _ _
  have A3 : Ab w W := by rw [← hW]; exact A2.out.alloc _
  rw [hg]
  clear hW hg A2
  obtain ⟨U, F, hF1, hF2⟩ := cls W
  have HF := hid hF2
  have HF1 := hid hF1
  have x0 : ∀ u, (F u).cell? ⟨g, 0, none⟩ = some (.int .i64 (rX t).1) := fun u => cell_of_row _ _ 0 _ _ _ ((hF1 u).heap r12)
  have x1 : ∀ u, (F u).cell? ⟨g, 1, none⟩ = some (.int .i64 (rX t).2.1) := fun u => cell_of_row _ _ 1 _ _ _ ((hF1 u).heap r12)
  have x2 : ∀ u, (F u).cell? ⟨g, 2, none⟩ = some (.int .i64 (rX t).2.2) := fun u => cell_of_row _ _ 2 _ _ _ ((hF1 u).heap r12)
  have x3 : ∀ u, (F u).cell? ⟨g, 3, none⟩ = some (.int .i64 (rY t).1) := fun u => cell_of_row _ _ 3 _ _ _ ((hF1 u).heap r12)
  have x4 : ∀ u, (F u).cell? ⟨g, 4, none⟩ = some (.int .i64 (rY t).2.1) := fun u => cell_of_row _ _ 4 _ _ _ ((hF1 u).heap r12)
  have x5 : ∀ u, (F u).cell? ⟨g, 5, none⟩ = some (.int .i64 (rY t).2.2) := fun u => cell_of_row _ _ 5 _ _ _ ((hF1 u).heap r12)
  have x6 : ∀ u, (F u).cell? ⟨g, 6, none⟩ = some (.int .i64 (rZ t).1) := fun u => cell_of_row _ _ 6 _ _ _ ((hF1 u).heap r12)
  have x7 : ∀ u, (F u).cell? ⟨g, 7, none⟩ = some (.int .i64 (rZ t).2.1) := fun u => cell_of_row _ _ 7 _ _ _ ((hF1 u).heap r12)
  have x8 : ∀ u, (F u).cell? ⟨g, 8, none⟩ = some (.int .i64 (rZ t).2.2) := fun u => cell_of_row _ _ 8 _ _ _ ((hF1 u).heap r12)
  have MI' := hid (fun u => MI.out (F u) (A3.trans (hF1 u)))
  have UN' := hid (fun u => UN.out (F u) (A3.trans (hF1 u)))
  have WY' := hid (fun u => WY.out (F u) (A3.trans (hF1 u)))
  have SD' := hid (fun u => SD.out (F u) (A3.trans (hF1 u)))
  have D := HF.out _ (Ab.refl W).drew
  have D2 := hid (fun u => HF.out _ (hF1 u).drew)
  have A3' := hid A3
  clear hF1 hF2 r12 MI UN WY SD A3
  refine region_cls F (by kernel_rfl) (by kernel_rfl) D ?_
  repeat (go_big_quiet_step (first
    | rfl
    | (go_at_call 26; exact calls_cls HF HF1 (MI'.out _))
    | (go_at_call 40; exact calls_cls HF HF1 (OF.out _))
    | (go_at_call 30; exact calls_cls HF HF1 (UN'.out _))))
  refine wpQuiet_nil ?_
  intro wz hwz
  obtain ⟨u, rfl⟩ := hwz
  clear MI' OF UN'
  go_wp2_with fail
  refine region_cls F (by kernel_rfl) (by kernel_rfl) (D2.out u) ?_
  repeat (go_big_quiet_step (first
    | rfl
    | (go_at_call 31; exact (CE.out _).mono (fun _ _ ⟨he, hw⟩ => ⟨he, _, hw⟩))
    | (go_at_call 25; exact calls_cls HF HF1 (WY'.out _))
    | (go_at_call 40; exact calls_cls HF HF1 (OE.out _))
    | (go_at_call 32; exact calls_cls HF HF1 (SD'.out _))))
  refine wpQuiet_nil ?_
  intro wz hwz
  obtain ⟨v, rfl⟩ := hwz
  go_wp2
  go_ret2
  exact ⟨rfl, A3'.out.trans (HF1.out v)⟩
end Go.Proofs.YtdgkmaamjdglmaaDoor
