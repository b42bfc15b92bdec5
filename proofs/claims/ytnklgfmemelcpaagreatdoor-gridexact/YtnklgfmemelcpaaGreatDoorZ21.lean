/-
  Some of the texts of this proof, one behind the other.
-/
import Derived.Test.YtnklgfmemelcpaaGreatDoorZ20
import Derived.Test.YtnklgfmemelcpaaGreatDoorZ13
import Derived.Laws.StructEq
/-
  What the document's net answers, of sides, cells behind and sizes: walks over the reference.
-/
namespace Go.Proofs.YtnklgfmemelcpaaGreatDoor
open Go.RowKit Cu Tf
attribute [local go_sem] run_store_float
theorem RefOf.c0 {n rb : Nat} {w : World} (h : RefOf n rb w) : w.cell? ⟨rb, 0, none⟩ = some (.int .i64 n) := by
  obtain ⟨ab, eb, cap, h1, -⟩ := h
  exact cell_of_row _ _ 0 _ _ _ h1
theorem rAround_ok {n rb c s : Nat} {w : World} (hn : 1 ≤ n ∧ n ≤ 32) (hc : c < 6 * n * n) (hs : s < 4) (g : RefOf n rb w) :
    Calls Tryz.prog 30 #[.pointer (some ⟨rb, 0, none⟩), .int .i64 c, .int .i64 s] w fun e w' => e = .returned (.tuple #[.int .i64 (eE n (4 * c + s) : Nat), .int .i64 (eS n (4 * c + s))]) ∧ Below w.heap.size w w' := by
  have CE := hid (rCells_at hn g)
  obtain ⟨ab, eb, cap, h1, h2, h3⟩ := g
  have h12 := n12 hn
  have ht := t_lt hc hs
  have hd := t_dec (c := c) hs
  have c1 := cell_of_row _ _ 1 _ _ _ h1
  have c2 := cell_of_row _ _ 2 _ _ _ h1
  have hb := bs_self hn.1 hc hs
  cases hl : isL n (4 * c + s) with
  | true =>
    have y1 := (h2.2 _ ht hl).1
    rw [hd.1] at y1
    have e1 : eE n (4 * c + s) = eN n (4 * c + s) := by unfold eE; rw [hl]; rfl
    have e2 : eS n (4 * c + s) = 1 := by unfold eS; rw [hl]; rfl
    have y0 := h3.cell ht
    rw [e1] at y0 ⊢
    rw [e2]
    exact rAround_go rb ab eb cap c s _ c (12 * n * n) (24 * n * n) w (6 * n * n) 1 (by omega) (by omega) (by omega) (by have := ed_lt hn.1 ht hl; omega) (by omega) c1 c2 y0 y1 CE (.inl ⟨rfl, rfl⟩)
  | false =>
    have hl' : isL n (mt n (4 * c + s)) = true := by rw [isL_mt hn.1 ht, hl]; rfl
    have y1 := (h2.2 _ (mt_lt hn.1 ht) hl').1
    rw [(mt_dec hn.1 ht).1, hd.1, hd.2] at y1
    have e1 : eE n (4 * c + s) = eN n (mt n (4 * c + s)) := by unfold eE; rw [hl]; rfl
    have e2 : eS n (4 * c + s) = -1 := by unfold eS; rw [hl]; rfl
    have y0 := h3.cell ht
    rw [e1] at y0 ⊢
    rw [e2]
    exact rAround_go rb ab eb cap c s _ (bsC n c s) (12 * n * n) (24 * n * n) w (6 * n * n) (-1) (by omega) (by omega) (by omega) (by have := ed_lt hn.1 (mt_lt hn.1 ht) hl'; omega) (by omega) c1 c2 y0 y1 CE (.inr ⟨hb, rfl⟩)
set_option maxHeartbeats 2000000 in
theorem rAround_no {n rb : Nat} {c s : Int} {w : World} (hn : 1 ≤ n ∧ n ≤ 32) (h : ¬ (0 ≤ c ∧ c < (6 * n * n : Nat) ∧ 0 ≤ s ∧ s < 4)) (g : RefOf n rb w) :
    Calls Tryz.prog 30 #[.pointer (some ⟨rb, 0, none⟩), .int .i64 c, .int .i64 s] w fun e w' => e = .returned (.tuple #[.int .i64 0, .int .i64 0]) ∧ Below w.heap.size w w' := by
  have CE := hid (rCells_at hn g)
  generalize 6 * n * n = N at *
  clear g hn
  have hh : c < 0 ∨ (0 ≤ c ∧ (N : Int) ≤ c) ∨ (0 ≤ c ∧ c < N ∧ s < 0) ∨ (0 ≤ c ∧ c < N ∧ 0 ≤ s ∧ 3 < s) := by omega
  clear h
  rcases hh with h | ⟨h0, h1⟩ | ⟨h0, h1, h2⟩ | ⟨h0, h1, h2, h3⟩
  all_goals
    go_enter Tryz.func30, Tryz.ntmps30
    go_wp2_with (go_at_call 10; refine (CE.out).mono ?_; rintro e w' ⟨rfl, hw⟩; have hw2 := hw.symm; subst hw2)
    go_ret2
    exact ⟨rfl, Below.refl _ _⟩
set_option maxHeartbeats 4000000 in
theorem rBehind_ok {n rb t : Nat} {w : World} (hn : 1 ≤ n ∧ n ≤ 32) (ht : t < 24 * n * n) (hl : isL n t = true) (g : RefOf n rb w) :
    Calls Tryz.prog 31 #[.pointer (some ⟨rb, 0, none⟩), .int .i64 (eN n t : Nat)] w fun e w' => e = .returned (.tuple #[.int .i64 (bsC n (t / 4) ((t % 4 + 2) % 4) : Nat), .int .i64 (bsC n (bsC n (t / 4) (t % 4)) ((bsS n (t / 4) (t % 4) + 2) % 4) : Nat), .bool true]) ∧ Below w.heap.size w w' := by
  have hc := t_cell ht
  obtain ⟨bc, bs⟩ := bs_lt hn.1 hc (s := t % 4) (by omega)
  have EG1 := hid (fun v (g : RefOf n rb v) => rEdge_ok hn ht hl g)
  have B1 := hid (fun u => rbeside_at n (t / 4) ((t % 4 + 2) % 4) u hn hc (by omega))
  have B2 := hid (fun u => rbeside_at n (bsC n (t / 4) (t % 4)) ((bsS n (t / 4) (t % 4) + 2) % 4) u hn bc (by omega))
  have e4 : (((t % 4 : Nat) : Int) + 2).tmod 4 = (((t % 4 + 2) % 4 : Nat) : Int) := by rw [Int.tmod_eq_emod_of_nonneg (by omega)]; omega
  have e5 : (((bsS n (t / 4) (t % 4) : Nat) : Int) + 2).tmod 4 = (((bsS n (t / 4) (t % 4) + 2) % 4 : Nat) : Int) := by rw [Int.tmod_eq_emod_of_nonneg (by omega)]; omega
  have hs4 : ((t % 4 : Nat) : Int) < 4 := by omega
  have ho4 : ((bsS n (t / 4) (t % 4) : Nat) : Int) < 4 := by omega
  generalize bsC n (bsC n (t / 4) (t % 4)) ((bsS n (t / 4) (t % 4) + 2) % 4) = a2 at *
  generalize bsC n (t / 4) ((t % 4 + 2) % 4) = a1 at *
  generalize bsS n (bsC n (t / 4) (t % 4)) ((bsS n (t / 4) (t % 4) + 2) % 4) = z2 at *
  generalize bsS n (t / 4) ((t % 4 + 2) % 4) = z1 at *
  generalize (bsS n (t / 4) (t % 4) + 2) % 4 = o1 at *
  generalize (t % 4 + 2) % 4 = s1 at *
  generalize bsC n (t / 4) (t % 4) = d at *
  generalize bsS n (t / 4) (t % 4) = o at *
  generalize t / 4 = c at *
  generalize t % 4 = s at *
  generalize eN n t = k at *
  have Q0 := hid g
  have AW0 := hid (Ab.refl w)
  clear hn ht hl g hc bc bs
  go_enter Tryz.func31, Tryz.ntmps31
  go_wp2_with fail
  refine Calls.mono (EG1.out _ Q0.out) ?_
  rintro e v1 ⟨rfl, b1⟩
  have ST : Hid (Ab w (v1.alloc (.cells #[.int .i64 c, .int .i64 s, .int .i64 d, .int .i64 o] 37))) := Ab.call (show Ab _ _ from b1) (bl1 v1 (.cells #[.int .i64 c, .int .i64 s, .int .i64 d, .int .i64 o] 37))
  have AW1 : Hid (Ab w (v1.alloc (.cells #[.int .i64 c, .int .i64 s, .int .i64 d, .int .i64 o] 37))) := (AW0.out).trans ST.out
  have Q1 : Hid (RefOf n rb (v1.alloc (.cells #[.int .i64 c, .int .i64 s, .int .i64 d, .int .i64 o] 37))) := Q0.out.to ST.out
  have RX1 : Hid ((v1.alloc (.cells #[.int .i64 c, .int .i64 s, .int .i64 d, .int .i64 o] 37)).heap[v1.heap.size]? = some (.cells #[.int .i64 c, .int .i64 s, .int .i64 d, .int .i64 o] 37)) := heap_alloc_new _ _
  clear ST Q0 AW0
  clear b1
  go_upto_region 4 with fail
  obtain ⟨UU, F, hF1, hF2⟩ := cls (v1.alloc (.cells #[.int .i64 c, .int .i64 s, .int .i64 d, .int .i64 o] 37))
  have HU := hid hF2
  have HU1 := hid hF1
  have xr0 : ∀ u, (F u).cell? ⟨rb, 0, none⟩ = some (.int .i64 n) := fun u => (Q1.out.to (hF1 u)).c0
  have xX0 : ∀ u, (F u).cell? ⟨v1.heap.size, 0, none⟩ = some (.int .i64 c) := fun u => cell_of_row _ _ 0 _ _ _ ((hF1 u).heap RX1.out)
  have xX1 : ∀ u, (F u).cell? ⟨v1.heap.size, 1, none⟩ = some (.int .i64 s) := fun u => cell_of_row _ _ 1 _ _ _ ((hF1 u).heap RX1.out)
  have xX2 : ∀ u, (F u).cell? ⟨v1.heap.size, 2, none⟩ = some (.int .i64 d) := fun u => cell_of_row _ _ 2 _ _ _ ((hF1 u).heap RX1.out)
  have xX3 : ∀ u, (F u).cell? ⟨v1.heap.size, 3, none⟩ = some (.int .i64 o) := fun u => cell_of_row _ _ 3 _ _ _ ((hF1 u).heap RX1.out)
  have D := HU.out _ (Ab.refl (v1.alloc (.cells #[.int .i64 c, .int .i64 s, .int .i64 d, .int .i64 o] 37))).drew
  clear hF1 hF2
  refine region_cls F (by kernel_rfl) (by kernel_rfl) D ?_
  repeat (go_big_quiet_step (first
    | (with_reducible rfl)
    | (go_at_call 28; exact calls_cls HU HU1 (B1.out _))))
  refine wpQuiet_nil ?_
  intro wz4 hwz
  obtain ⟨u, hu⟩ := hwz
  have bz : Ab (v1.alloc (.cells #[.int .i64 c, .int .i64 s, .int .i64 d, .int .i64 o] 37)) wz4 := by rw [hu]; exact HU1.out u
  clear hu u
  clear HU HU1 D xr0 xX0 xX1 xX2 xX3
  clear F UU
  have ST : Hid (Ab (v1.alloc (.cells #[.int .i64 c, .int .i64 s, .int .i64 d, .int .i64 o] 37)) wz4) := bz
  have AW2 : Hid (Ab w wz4) := (AW1.out).trans ST.out
  have RX2 : Hid (wz4.heap[v1.heap.size]? = some (.cells #[.int .i64 c, .int .i64 s, .int .i64 d, .int .i64 o] 37)) := Ab.heap ST.out RX1.out
  have Q2 : Hid (RefOf n rb wz4) := Q1.out.to ST.out
  clear ST RX1 Q1 AW1
  clear bz
  go_upto_region 5 with fail
  obtain ⟨UU, F, hF1, hF2⟩ := cls wz4
  have HU := hid hF2
  have HU1 := hid hF1
  have xr0 : ∀ u, (F u).cell? ⟨rb, 0, none⟩ = some (.int .i64 n) := fun u => (Q2.out.to (hF1 u)).c0
  have xX0 : ∀ u, (F u).cell? ⟨v1.heap.size, 0, none⟩ = some (.int .i64 c) := fun u => cell_of_row _ _ 0 _ _ _ ((hF1 u).heap RX2.out)
  have xX1 : ∀ u, (F u).cell? ⟨v1.heap.size, 1, none⟩ = some (.int .i64 s) := fun u => cell_of_row _ _ 1 _ _ _ ((hF1 u).heap RX2.out)
  have xX2 : ∀ u, (F u).cell? ⟨v1.heap.size, 2, none⟩ = some (.int .i64 d) := fun u => cell_of_row _ _ 2 _ _ _ ((hF1 u).heap RX2.out)
  have xX3 : ∀ u, (F u).cell? ⟨v1.heap.size, 3, none⟩ = some (.int .i64 o) := fun u => cell_of_row _ _ 3 _ _ _ ((hF1 u).heap RX2.out)
  have D := HU.out _ (Ab.refl wz4).drew
  clear hF1 hF2
  refine region_cls F (by kernel_rfl) (by kernel_rfl) D ?_
  repeat (go_big_quiet_step (first
    | (with_reducible rfl)
    | (go_at_call 28; exact calls_cls HU HU1 (B2.out _))))
  refine wpQuiet_nil ?_
  intro wz5 hwz
  obtain ⟨u, hu⟩ := hwz
  have bz : Ab wz4 wz5 := by rw [hu]; exact HU1.out u
  clear hu u
  clear HU HU1 D xr0 xX0 xX1 xX2 xX3
  clear F UU
  have ST : Hid (Ab wz4 wz5) := bz
  have AW3 : Hid (Ab w wz5) := (AW2.out).trans ST.out
  have RX3 : Hid (wz5.heap[v1.heap.size]? = some (.cells #[.int .i64 c, .int .i64 s, .int .i64 d, .int .i64 o] 37)) := Ab.heap ST.out RX2.out
  have Q3 : Hid (RefOf n rb wz5) := Q2.out.to ST.out
  clear ST RX2 Q2 AW2
  clear bz
  go_wp2
  refine bodyPost_ret ?_ rfl ⟨rfl, ?_⟩
  · simp [results, Tryz.results31, go_sem]
  · exact AW3.out
set_option maxHeartbeats 2000000 in
theorem rBehind_no {n rb : Nat} {k : Int} {w : World} (hk : inR k (12 * n * n : Nat) = false) (g : RefOf n rb w) :
    Calls Tryz.prog 31 #[.pointer (some ⟨rb, 0, none⟩), .int .i64 k] w fun e w' => e = .returned (.tuple #[.int .i64 0, .int .i64 0, .bool false]) ∧ Below w.heap.size w w' := by
  have E1 := hid (rEdge_no hk g)
  clear hk g
  go_enter Tryz.func31, Tryz.ntmps31
  go_wp2_with fail
  refine E1.out.mono ?_
  rintro e v1 ⟨rfl, b1⟩
  go_wp2
  refine bodyPost_ret ?_ rfl ⟨rfl, Ab.alloc (show Ab w v1 from b1) _⟩
  simp [results, Tryz.results31, go_sem]
theorem rArea_at {n rb : Nat} {c V : Int} {w : World} (A1 : ∀ u, Calls Tryz.prog 51 #[.int .i64 n, .int .i64 c] u fun e w' => e = .returned (.int .i64 V) ∧ Below u.heap.size u w') (g : RefOf n rb w) :
    Calls Tryz.prog 32 #[.pointer (some ⟨rb, 0, none⟩), .int .i64 c] w fun e w' => e = .returned (.int .i64 V) ∧ Below w.heap.size w w' := by
  have SI := hid (rSide_at g)
  have AA := hid A1
  clear g A1
  go_enter Tryz.func32, Tryz.ntmps32
  go_wp2_with (first
    | (go_at_call 8; refine SI.out.mono ?_; rintro e w' ⟨rfl, hw⟩; have hw2 := hw.symm; subst hw2)
    | (go_at_call 51; refine (AA.out _).mono ?_; rintro e v1 ⟨rfl, b1⟩))
  go_ret
  exact ⟨rfl, b1⟩
set_option maxHeartbeats 4000000 in
theorem rLength_ok {n rb t : Nat} {w : World} (hn : 1 ≤ n ∧ n ≤ 32) (ht : t < 24 * n * n) (hl : isL n t = true) (g : RefOf n rb w) :
    Calls Tryz.prog 35 #[.pointer (some ⟨rb, 0, none⟩), .int .i64 (eN n t : Nat)] w fun e w' => e = .returned (.float .f64 (LnC n (t / 4) (t % 4))) ∧ Below w.heap.size w w' := by
  have hc := t_cell ht
  have EG1 := hid (fun v (g : RefOf n rb v) => rEdge_ok hn ht hl g)
  have L1 := hid (fun u => rlen_ok n (t / 4) (t % 4) u hn hc (by omega))
  generalize LnC n (t / 4) (t % 4) = L at *
  generalize bsC n (t / 4) (t % 4) = d at *
  generalize bsS n (t / 4) (t % 4) = o at *
  generalize t / 4 = c at *
  generalize t % 4 = s at *
  generalize eN n t = k at *
  have Q0 := hid g
  have AW0 := hid (Ab.refl w)
  clear hn ht hl g hc
  go_enter Tryz.func35, Tryz.ntmps35
  go_wp2_with fail
  refine Calls.mono (EG1.out _ Q0.out) ?_
  rintro e v1 ⟨rfl, b1⟩
  have ST : Hid (Ab w (v1.alloc (.cells #[.int .i64 c, .int .i64 s, .int .i64 d, .int .i64 o] 37))) := Ab.call (show Ab _ _ from b1) (bl1 v1 (.cells #[.int .i64 c, .int .i64 s, .int .i64 d, .int .i64 o] 37))
  have AW1 : Hid (Ab w (v1.alloc (.cells #[.int .i64 c, .int .i64 s, .int .i64 d, .int .i64 o] 37))) := (AW0.out).trans ST.out
  have Q1 : Hid (RefOf n rb (v1.alloc (.cells #[.int .i64 c, .int .i64 s, .int .i64 d, .int .i64 o] 37))) := Q0.out.to ST.out
  have RX1 : Hid ((v1.alloc (.cells #[.int .i64 c, .int .i64 s, .int .i64 d, .int .i64 o] 37)).heap[v1.heap.size]? = some (.cells #[.int .i64 c, .int .i64 s, .int .i64 d, .int .i64 o] 37)) := heap_alloc_new _ _
  clear ST Q0 AW0
  clear b1
  go_upto_region 4 with fail
  obtain ⟨UU, F, hF1, hF2⟩ := cls (v1.alloc (.cells #[.int .i64 c, .int .i64 s, .int .i64 d, .int .i64 o] 37))
  have HU := hid hF2
  have HU1 := hid hF1
  have xr0 : ∀ u, (F u).cell? ⟨rb, 0, none⟩ = some (.int .i64 n) := fun u => (Q1.out.to (hF1 u)).c0
  have xX0 : ∀ u, (F u).cell? ⟨v1.heap.size, 0, none⟩ = some (.int .i64 c) := fun u => cell_of_row _ _ 0 _ _ _ ((hF1 u).heap RX1.out)
  have xX1 : ∀ u, (F u).cell? ⟨v1.heap.size, 1, none⟩ = some (.int .i64 s) := fun u => cell_of_row _ _ 1 _ _ _ ((hF1 u).heap RX1.out)
  have xX2 : ∀ u, (F u).cell? ⟨v1.heap.size, 2, none⟩ = some (.int .i64 d) := fun u => cell_of_row _ _ 2 _ _ _ ((hF1 u).heap RX1.out)
  have xX3 : ∀ u, (F u).cell? ⟨v1.heap.size, 3, none⟩ = some (.int .i64 o) := fun u => cell_of_row _ _ 3 _ _ _ ((hF1 u).heap RX1.out)
  have D := HU.out _ (Ab.refl (v1.alloc (.cells #[.int .i64 c, .int .i64 s, .int .i64 d, .int .i64 o] 37))).drew
  clear hF1 hF2
  refine region_cls F (by kernel_rfl) (by kernel_rfl) D ?_
  repeat (go_big_quiet_step (first
    | (with_reducible rfl)
    | (go_at_call 53; exact calls_cls HU HU1 (L1.out _))))
  refine wpQuiet_nil ?_
  intro wz4 hwz
  obtain ⟨u, hu⟩ := hwz
  have bz : Ab (v1.alloc (.cells #[.int .i64 c, .int .i64 s, .int .i64 d, .int .i64 o] 37)) wz4 := by rw [hu]; exact HU1.out u
  clear hu u
  clear HU HU1 D xr0 xX0 xX1 xX2 xX3
  clear F UU
  have ST : Hid (Ab (v1.alloc (.cells #[.int .i64 c, .int .i64 s, .int .i64 d, .int .i64 o] 37)) wz4) := bz
  have AW2 : Hid (Ab w wz4) := (AW1.out).trans ST.out
  have RX2 : Hid (wz4.heap[v1.heap.size]? = some (.cells #[.int .i64 c, .int .i64 s, .int .i64 d, .int .i64 o] 37)) := Ab.heap ST.out RX1.out
  have Q2 : Hid (RefOf n rb wz4) := Q1.out.to ST.out
  clear ST RX1 Q1 AW1
  clear bz
  go_wp2
  go_ret
  exact ⟨rfl, AW2.out⟩
set_option maxHeartbeats 2000000 in
theorem rLength_no {n rb : Nat} {k : Int} {w : World} (hk : inR k (12 * n * n : Nat) = false) (g : RefOf n rb w) :
    Calls Tryz.prog 35 #[.pointer (some ⟨rb, 0, none⟩), .int .i64 k] w fun e w' => e = .returned (.float .f64 0) ∧ Below w.heap.size w w' := by
  have E1 := hid (rEdge_no hk g)
  clear hk g
  go_enter Tryz.func35, Tryz.ntmps35
  go_wp2_with fail
  refine E1.out.mono ?_
  rintro e v1 ⟨rfl, b1⟩
  go_wp2
  go_ret
  exact ⟨rfl, Ab.alloc (show Ab w v1 from b1) _⟩
set_option maxHeartbeats 4000000 in
theorem rGap_ok {n rb t : Nat} {w : World} (hn : 1 ≤ n ∧ n ≤ 32) (ht : t < 24 * n * n) (hl : isL n t = true) (g : RefOf n rb w) :
    Calls Tryz.prog 37 #[.pointer (some ⟨rb, 0, none⟩), .int .i64 (eN n t : Nat)] w fun e w' => e = .returned (.float .f64 (GpC n (t / 4) (t % 4))) ∧ Below w.heap.size w w' := by
  have hc := t_cell ht
  have EG1 := hid (fun v (g : RefOf n rb v) => rEdge_ok hn ht hl g)
  have L1 := hid (fun u => rgap_ok n (t / 4) (t % 4) u hn hc (by omega))
  generalize GpC n (t / 4) (t % 4) = L at *
  generalize bsC n (t / 4) (t % 4) = d at *
  generalize bsS n (t / 4) (t % 4) = o at *
  generalize t / 4 = c at *
  generalize t % 4 = s at *
  generalize eN n t = k at *
  have Q0 := hid g
  have AW0 := hid (Ab.refl w)
  clear hn ht hl g hc
  go_enter Tryz.func37, Tryz.ntmps37
  go_wp2_with fail
  refine Calls.mono (EG1.out _ Q0.out) ?_
  rintro e v1 ⟨rfl, b1⟩
  have ST : Hid (Ab w (v1.alloc (.cells #[.int .i64 c, .int .i64 s, .int .i64 d, .int .i64 o] 37))) := Ab.call (show Ab _ _ from b1) (bl1 v1 (.cells #[.int .i64 c, .int .i64 s, .int .i64 d, .int .i64 o] 37))
  have AW1 : Hid (Ab w (v1.alloc (.cells #[.int .i64 c, .int .i64 s, .int .i64 d, .int .i64 o] 37))) := (AW0.out).trans ST.out
  have Q1 : Hid (RefOf n rb (v1.alloc (.cells #[.int .i64 c, .int .i64 s, .int .i64 d, .int .i64 o] 37))) := Q0.out.to ST.out
  have RX1 : Hid ((v1.alloc (.cells #[.int .i64 c, .int .i64 s, .int .i64 d, .int .i64 o] 37)).heap[v1.heap.size]? = some (.cells #[.int .i64 c, .int .i64 s, .int .i64 d, .int .i64 o] 37)) := heap_alloc_new _ _
  clear ST Q0 AW0
  clear b1
  go_upto_region 4 with fail
  obtain ⟨UU, F, hF1, hF2⟩ := cls (v1.alloc (.cells #[.int .i64 c, .int .i64 s, .int .i64 d, .int .i64 o] 37))
  have HU := hid hF2
  have HU1 := hid hF1
  have xr0 : ∀ u, (F u).cell? ⟨rb, 0, none⟩ = some (.int .i64 n) := fun u => (Q1.out.to (hF1 u)).c0
  have xX0 : ∀ u, (F u).cell? ⟨v1.heap.size, 0, none⟩ = some (.int .i64 c) := fun u => cell_of_row _ _ 0 _ _ _ ((hF1 u).heap RX1.out)
  have xX1 : ∀ u, (F u).cell? ⟨v1.heap.size, 1, none⟩ = some (.int .i64 s) := fun u => cell_of_row _ _ 1 _ _ _ ((hF1 u).heap RX1.out)
  have xX2 : ∀ u, (F u).cell? ⟨v1.heap.size, 2, none⟩ = some (.int .i64 d) := fun u => cell_of_row _ _ 2 _ _ _ ((hF1 u).heap RX1.out)
  have xX3 : ∀ u, (F u).cell? ⟨v1.heap.size, 3, none⟩ = some (.int .i64 o) := fun u => cell_of_row _ _ 3 _ _ _ ((hF1 u).heap RX1.out)
  have D := HU.out _ (Ab.refl (v1.alloc (.cells #[.int .i64 c, .int .i64 s, .int .i64 d, .int .i64 o] 37))).drew
  clear hF1 hF2
  refine region_cls F (by kernel_rfl) (by kernel_rfl) D ?_
  repeat (go_big_quiet_step (first
    | (with_reducible rfl)
    | (go_at_call 54; exact calls_cls HU HU1 (L1.out _))))
  refine wpQuiet_nil ?_
  intro wz4 hwz
  obtain ⟨u, hu⟩ := hwz
  have bz : Ab (v1.alloc (.cells #[.int .i64 c, .int .i64 s, .int .i64 d, .int .i64 o] 37)) wz4 := by rw [hu]; exact HU1.out u
  clear hu u
  clear HU HU1 D xr0 xX0 xX1 xX2 xX3
  clear F UU
  have ST : Hid (Ab (v1.alloc (.cells #[.int .i64 c, .int .i64 s, .int .i64 d, .int .i64 o] 37)) wz4) := bz
  have AW2 : Hid (Ab w wz4) := (AW1.out).trans ST.out
  have RX2 : Hid (wz4.heap[v1.heap.size]? = some (.cells #[.int .i64 c, .int .i64 s, .int .i64 d, .int .i64 o] 37)) := Ab.heap ST.out RX1.out
  have Q2 : Hid (RefOf n rb wz4) := Q1.out.to ST.out
  clear ST RX1 Q1 AW1
  clear bz
  go_wp2
  go_ret
  exact ⟨rfl, AW2.out⟩
set_option maxHeartbeats 2000000 in
theorem rGap_no {n rb : Nat} {k : Int} {w : World} (hk : inR k (12 * n * n : Nat) = false) (g : RefOf n rb w) :
    Calls Tryz.prog 37 #[.pointer (some ⟨rb, 0, none⟩), .int .i64 k] w fun e w' => e = .returned (.float .f64 0) ∧ Below w.heap.size w w' := by
  have E1 := hid (rEdge_no hk g)
  clear hk g
  go_enter Tryz.func37, Tryz.ntmps37
  go_wp2_with fail
  refine E1.out.mono ?_
  rintro e v1 ⟨rfl, b1⟩
  go_wp2
  go_ret
  exact ⟨rfl, Ab.alloc (show Ab w v1 from b1) _⟩
end Go.Proofs.YtnklgfmemelcpaaGreatDoor

/-
  What no net answers: walks over the program and the reference.
-/
namespace Go.Proofs.YtnklgfmemelcpaaGreatDoor
open Go.RowKit Cu Tf
attribute [local go_sem] run_store_float
theorem inR_0 (k : Int) : inR k 0 = false := by rw [inR_no]; omega
theorem nSide (w : World) : Calls Tryz.prog 7 #[.pointer none] w fun e w' => e = .returned (.int .i64 0) ∧ w' = w := by
  go_enter Tryz.func7, Tryz.ntmps7
  go_wp2
  go_ret
  exact ⟨rfl, rfl⟩
theorem nCells (w : World) : Calls Tryz.prog 9 #[.pointer none] w fun e w' => e = .returned (.int .i64 0) ∧ w' = w := by
  go_enter Tryz.func9, Tryz.ntmps9
  go_wp2
  go_ret
  exact ⟨rfl, rfl⟩
theorem nEdges (w : World) : Calls Tryz.prog 11 #[.pointer none] w fun e w' => e = .returned (.int .i64 0) ∧ w' = w := by
  go_enter Tryz.func11, Tryz.ntmps11
  go_wp2
  go_ret
  exact ⟨rfl, rfl⟩
theorem mSide (w : World) : Calls Tryz.prog 8 #[.pointer none] w fun e w' => e = .returned (.int .i64 0) ∧ w' = w := by
  go_enter Tryz.func8, Tryz.ntmps8
  go_wp2
  go_ret
  exact ⟨rfl, rfl⟩
theorem mEdges (w : World) : Calls Tryz.prog 12 #[.pointer none] w fun e w' => e = .returned (.int .i64 0) ∧ w' = w := by
  go_enter Tryz.func12, Tryz.ntmps12
  go_wp2
  go_ret
  exact ⟨rfl, rfl⟩
theorem mCells (w : World) : Calls Tryz.prog 10 #[.pointer none] w fun e w' => e = .returned (.int .i64 0) ∧ w' = w := by
  have SI := hid (fun u => mSide u)
  have CE := hid (fun u => rcells_at 0 u)
  rw [show clN 0 = 0 from rfl] at CE
  go_enter Tryz.func10, Tryz.ntmps10
  go_wp2_with (first
    | (go_at_call 8; refine (SI.out _).mono ?_; rintro e w' ⟨rfl, hw⟩; have hw2 := hw.symm; subst hw2)
    | (go_at_call 27; refine (CE.out _).mono ?_; rintro e w' ⟨rfl, hw⟩; have hw2 := hw.symm; subst hw2))
  go_ret
  exact ⟨rfl, rfl⟩
set_option maxHeartbeats 1000000 in
theorem nEdge (k : Int) (w : World) : Calls Tryz.prog 14 #[.pointer none, .int .i64 k] w fun e w' => e = .returned (.tuple #[.agg #[.int .i64 0, .int .i64 0, .int .i64 0, .int .i64 0], .bool false]) ∧ Below w.heap.size w w' := by
  have E1 := hid (fun u => nEdges u)
  have C1 := hid (fun u => gcounts_at k 0 u)
  rw [inR_0] at C1
  go_enter Tryz.func14, Tryz.ntmps14
  go_wp2_with (first
    | (go_at_call 11; refine (E1.out _).mono ?_; rintro e w' ⟨rfl, hw⟩; have hw2 := hw.symm; subst hw2)
    | (go_at_call 38; refine (C1.out _).mono ?_; rintro e w' ⟨rfl, hw⟩; have hw2 := hw.symm; subst hw2))
  refine bodyPost_ret ?_ rfl ⟨rfl, bl1 w _⟩
  exact res_two Tryz.results14 _ _ w.heap.size _ _ (0, 0) _ _ rfl rfl (heap_alloc_new w _) Tryz.underlying37 rfl (by kernel_rfl)
set_option maxHeartbeats 1000000 in
theorem nBehind (k : Int) (w : World) : Calls Tryz.prog 16 #[.pointer none, .int .i64 k] w fun e w' => e = .returned (.tuple #[.int .i64 0, .int .i64 0, .bool false]) ∧ Below w.heap.size w w' := by
  have E1 := hid (fun u => nEdges u)
  have C1 := hid (fun u => gcounts_at k 0 u)
  rw [inR_0] at C1
  go_enter Tryz.func16, Tryz.ntmps16
  go_wp2_with (first
    | (go_at_call 11; refine (E1.out _).mono ?_; rintro e w' ⟨rfl, hw⟩; have hw2 := hw.symm; subst hw2)
    | (go_at_call 38; refine (C1.out _).mono ?_; rintro e w' ⟨rfl, hw⟩; have hw2 := hw.symm; subst hw2))
  refine bodyPost_ret ?_ rfl ⟨rfl, Below.refl _ _⟩
  simp [results, Tryz.results16, go_sem]
set_option maxHeartbeats 1000000 in
theorem nArea (k : Int) (w : World) : Calls Tryz.prog 17 #[.pointer none, .int .i64 k] w fun e w' => e = .returned (.int .i64 0) ∧ Below w.heap.size w w' := by
  have E1 := hid (fun u => nCells u)
  have C1 := hid (fun u => gcounts_at k 0 u)
  rw [inR_0] at C1
  go_enter Tryz.func17, Tryz.ntmps17
  go_wp2_with (first
    | (go_at_call 9; refine (E1.out _).mono ?_; rintro e w' ⟨rfl, hw⟩; have hw2 := hw.symm; subst hw2)
    | (go_at_call 38; refine (C1.out _).mono ?_; rintro e w' ⟨rfl, hw⟩; have hw2 := hw.symm; subst hw2))
  go_ret
  exact ⟨rfl, Below.refl _ _⟩
set_option maxHeartbeats 1000000 in
theorem nLength (k : Int) (w : World) : Calls Tryz.prog 34 #[.pointer none, .int .i64 k] w fun e w' => e = .returned (.float .f64 0) ∧ Below w.heap.size w w' := by
  have E1 := hid (fun u => nEdges u)
  have C1 := hid (fun u => gcounts_at k 0 u)
  rw [inR_0] at C1
  go_enter Tryz.func34, Tryz.ntmps34
  go_wp2_with (first
    | (go_at_call 11; refine (E1.out _).mono ?_; rintro e w' ⟨rfl, hw⟩; have hw2 := hw.symm; subst hw2)
    | (go_at_call 38; refine (C1.out _).mono ?_; rintro e w' ⟨rfl, hw⟩; have hw2 := hw.symm; subst hw2))
  go_ret
  exact ⟨rfl, Below.refl _ _⟩
set_option maxHeartbeats 1000000 in
theorem nGap (k : Int) (w : World) : Calls Tryz.prog 36 #[.pointer none, .int .i64 k] w fun e w' => e = .returned (.float .f64 0) ∧ Below w.heap.size w w' := by
  have E1 := hid (fun u => nEdges u)
  have C1 := hid (fun u => gcounts_at k 0 u)
  rw [inR_0] at C1
  go_enter Tryz.func36, Tryz.ntmps36
  go_wp2_with (first
    | (go_at_call 11; refine (E1.out _).mono ?_; rintro e w' ⟨rfl, hw⟩; have hw2 := hw.symm; subst hw2)
    | (go_at_call 38; refine (C1.out _).mono ?_; rintro e w' ⟨rfl, hw⟩; have hw2 := hw.symm; subst hw2))
  go_ret
  exact ⟨rfl, Below.refl _ _⟩
theorem nAround (c s : Int) (w : World) : Calls Tryz.prog 15 #[.pointer none, .int .i64 c, .int .i64 s] w fun e w' => e = .returned (.tuple #[.int .i64 0, .int .i64 0]) ∧ Below w.heap.size w w' := by
  go_enter Tryz.func15, Tryz.ntmps15
  go_wp2
  go_ret2
  exact ⟨rfl, Below.refl _ _⟩
set_option maxHeartbeats 1000000 in
theorem mEdge (k : Int) (w : World) : Calls Tryz.prog 29 #[.pointer none, .int .i64 k] w fun e w' => e = .returned (.tuple #[.agg #[.int .i64 0, .int .i64 0, .int .i64 0, .int .i64 0], .bool false]) ∧ Below w.heap.size w w' := by
  have E1 := hid (fun u => mEdges u)
  by_cases h0 : k < 0
  · go_enter Tryz.func29, Tryz.ntmps29
    go_wp2_with (go_at_call 12; refine (E1.out _).mono ?_; rintro e w' ⟨rfl, hw⟩; have hw2 := hw.symm; subst hw2)
    refine bodyPost_ret ?_ rfl ⟨rfl, bl1 w _⟩
    exact res_two Tryz.results29 _ _ w.heap.size _ _ (0, 0) _ _ rfl rfl (heap_alloc_new w _) Tryz.underlying37 rfl (by kernel_rfl)
  · have h1 : 0 ≤ k := by omega
    go_enter Tryz.func29, Tryz.ntmps29
    go_wp2_with (go_at_call 12; refine (E1.out _).mono ?_; rintro e w' ⟨rfl, hw⟩; have hw2 := hw.symm; subst hw2)
    refine bodyPost_ret ?_ rfl ⟨rfl, bl1 w _⟩
    exact res_two Tryz.results29 _ _ w.heap.size _ _ (0, 0) _ _ rfl rfl (heap_alloc_new w _) Tryz.underlying37 rfl (by kernel_rfl)
set_option maxHeartbeats 1000000 in
theorem mAround (c s : Int) (w : World) : Calls Tryz.prog 30 #[.pointer none, .int .i64 c, .int .i64 s] w fun e w' => e = .returned (.tuple #[.int .i64 0, .int .i64 0]) ∧ Below w.heap.size w w' := by
  have CE := hid (fun u => mCells u)
  by_cases h0 : c < 0
  · go_enter Tryz.func30, Tryz.ntmps30
    go_wp2_with (go_at_call 10; refine (CE.out _).mono ?_; rintro e w' ⟨rfl, hw⟩; have hw2 := hw.symm; subst hw2)
    go_ret2
    exact ⟨rfl, Below.refl _ _⟩
  · have h1 : 0 ≤ c := by omega
    go_enter Tryz.func30, Tryz.ntmps30
    go_wp2_with (go_at_call 10; refine (CE.out _).mono ?_; rintro e w' ⟨rfl, hw⟩; have hw2 := hw.symm; subst hw2)
    go_ret2
    exact ⟨rfl, Below.refl _ _⟩
theorem mArea (c : Int) (w : World) : Calls Tryz.prog 32 #[.pointer none, .int .i64 c] w fun e w' => e = .returned (.int .i64 0) ∧ Below w.heap.size w w' := by
  have SI := hid (fun u => mSide u)
  have AA := hid (fun u => rarea_no 0 c u (inR_0 c))
  go_enter Tryz.func32, Tryz.ntmps32
  go_wp2_with (first
    | (go_at_call 8; refine (SI.out _).mono ?_; rintro e w' ⟨rfl, hw⟩; have hw2 := hw.symm; subst hw2)
    | (go_at_call 51; refine (AA.out _).mono ?_; rintro e v1 ⟨rfl, b1⟩))
  go_ret
  exact ⟨rfl, b1⟩
theorem mBehind (k : Int) (w : World) : Calls Tryz.prog 31 #[.pointer none, .int .i64 k] w fun e w' => e = .returned (.tuple #[.int .i64 0, .int .i64 0, .bool false]) ∧ Below w.heap.size w w' := by
  have E1 := hid (mEdge k w)
  go_enter Tryz.func31, Tryz.ntmps31
  go_wp2_with fail
  refine E1.out.mono ?_
  rintro e v1 ⟨rfl, b1⟩
  go_wp2
  refine bodyPost_ret ?_ rfl ⟨rfl, Ab.alloc (show Ab w v1 from b1) _⟩
  simp [results, Tryz.results31, go_sem]
theorem mLength (k : Int) (w : World) : Calls Tryz.prog 35 #[.pointer none, .int .i64 k] w fun e w' => e = .returned (.float .f64 0) ∧ Below w.heap.size w w' := by
  have E1 := hid (mEdge k w)
  go_enter Tryz.func35, Tryz.ntmps35
  go_wp2_with fail
  refine E1.out.mono ?_
  rintro e v1 ⟨rfl, b1⟩
  go_wp2
  go_ret
  exact ⟨rfl, Ab.alloc (show Ab w v1 from b1) _⟩
theorem mGap (k : Int) (w : World) : Calls Tryz.prog 37 #[.pointer none, .int .i64 k] w fun e w' => e = .returned (.float .f64 0) ∧ Below w.heap.size w w' := by
  have E1 := hid (mEdge k w)
  go_enter Tryz.func37, Tryz.ntmps37
  go_wp2_with fail
  refine E1.out.mono ?_
  rintro e v1 ⟨rfl, b1⟩
  go_wp2
  go_ret
  exact ⟨rfl, Ab.alloc (show Ab w v1 from b1) _⟩
/-- both nets answer alike -/
theorem both_edge {n gb rb : Nat} (hn : 1 ≤ n ∧ n ≤ 32) (k : Int) : ∃ (x0 x1 x2 x3 : Int) (b : Bool), (∀ u, GridOf n gb u → Calls Tryz.prog 14 #[.pointer (some ⟨gb, 0, none⟩), .int .i64 k] u fun e w' => e = .returned (.tuple #[.agg #[.int .i64 x0, .int .i64 x1, .int .i64 x2, .int .i64 x3], .bool b]) ∧ Below u.heap.size u w') ∧ (∀ u, RefOf n rb u → Calls Tryz.prog 29 #[.pointer (some ⟨rb, 0, none⟩), .int .i64 k] u fun e w' => e = .returned (.tuple #[.agg #[.int .i64 x0, .int .i64 x1, .int .i64 x2, .int .i64 x3], .bool b]) ∧ Below u.heap.size u w') := by
  cases h : inR k (12 * n * n : Nat) with
  | false => exact ⟨0, 0, 0, 0, false, fun u g => gEdge_no h g, fun u g => rEdge_no h g⟩
  | true =>
    obtain ⟨h1, h2⟩ := inR_iff.1 h
    obtain ⟨k, rfl⟩ := Int.eq_ofNat_of_zero_le h1
    obtain ⟨t, e1, e2, rfl⟩ := ed_ex hn.1 (k := k) (by omega)
    exact ⟨_, _, _, _, true, fun u g => gEdge_ok hn e1 e2 g, fun u g => rEdge_ok hn e1 e2 g⟩
theorem both_around {n gb rb : Nat} (hn : 1 ≤ n ∧ n ≤ 32) {c s : Int} (hc : W64 c) (hs : W64 s) : ∃ (x y : Int), (∀ u, GridOf n gb u → Calls Tryz.prog 15 #[.pointer (some ⟨gb, 0, none⟩), .int .i64 c, .int .i64 s] u fun e w' => e = .returned (.tuple #[.int .i64 x, .int .i64 y]) ∧ Below u.heap.size u w') ∧ (∀ u, RefOf n rb u → Calls Tryz.prog 30 #[.pointer (some ⟨rb, 0, none⟩), .int .i64 c, .int .i64 s] u fun e w' => e = .returned (.tuple #[.int .i64 x, .int .i64 y]) ∧ Below u.heap.size u w') := by
  refine ⟨_, _, fun u g => gAround_at hc hs g, fun u g => ?_⟩
  by_cases h : 0 ≤ c ∧ c < (6 * n * n : Nat) ∧ 0 ≤ s ∧ s < 4
  · obtain ⟨c, rfl⟩ := Int.eq_ofNat_of_zero_le h.1
    obtain ⟨s, rfl⟩ := Int.eq_ofNat_of_zero_le h.2.2.1
    rw [gT_end hn.1 (by omega) (by omega)]
    exact rAround_ok hn (by omega) (by omega) g
  · rw [gT_out _ _ h]
    exact rAround_no hn h g
theorem both_behind {n gb rb : Nat} (hn : 1 ≤ n ∧ n ≤ 32) (k : Int) : ∃ (x y : Int) (b : Bool), (∀ u, GridOf n gb u → Calls Tryz.prog 16 #[.pointer (some ⟨gb, 0, none⟩), .int .i64 k] u fun e w' => e = .returned (.tuple #[.int .i64 x, .int .i64 y, .bool b]) ∧ Below u.heap.size u w') ∧ (∀ u, RefOf n rb u → Calls Tryz.prog 31 #[.pointer (some ⟨rb, 0, none⟩), .int .i64 k] u fun e w' => e = .returned (.tuple #[.int .i64 x, .int .i64 y, .bool b]) ∧ Below u.heap.size u w') := by
  cases h : inR k (12 * n * n : Nat) with
  | false => exact ⟨0, 0, false, fun u g => gBehind_no h g, fun u g => rBehind_no h g⟩
  | true =>
    obtain ⟨h1, h2⟩ := inR_iff.1 h
    obtain ⟨k, rfl⟩ := Int.eq_ofNat_of_zero_le h1
    obtain ⟨t, e1, e2, rfl⟩ := ed_ex hn.1 (k := k) (by omega)
    exact ⟨_, _, true, fun u g => gBehind_ok hn e1 e2 g, fun u g => rBehind_ok hn e1 e2 g⟩
theorem both_area {n gb rb : Nat} (hn : 1 ≤ n ∧ n ≤ 32) (c : Int) : ∃ (V : Int), (∀ u, GridOf n gb u → Calls Tryz.prog 17 #[.pointer (some ⟨gb, 0, none⟩), .int .i64 c] u fun e w' => e = .returned (.int .i64 V) ∧ Below u.heap.size u w') ∧ (∀ u, RefOf n rb u → Calls Tryz.prog 32 #[.pointer (some ⟨rb, 0, none⟩), .int .i64 c] u fun e w' => e = .returned (.int .i64 V) ∧ Below u.heap.size u w') := by
  cases h : inR c (6 * n * n : Nat) with
  | false => exact ⟨0, fun u g => gArea_no h g, fun u g => rArea_at (fun v => rarea_no n c v (by rw [clN_nat hn]; exact h)) g⟩
  | true =>
    obtain ⟨h1, h2⟩ := inR_iff.1 h
    obtain ⟨c, rfl⟩ := Int.eq_ofNat_of_zero_le h1
    exact ⟨_, fun u g => gArea_ok hn (by omega) g, fun u g => rArea_at (fun v => rarea_ok n c v hn (by omega)) g⟩
theorem both_len {n gb rb : Nat} (hn : 1 ≤ n ∧ n ≤ 32) (k : Int) : ∃ (L : Nat), (∀ u, GridOf n gb u → Calls Tryz.prog 34 #[.pointer (some ⟨gb, 0, none⟩), .int .i64 k] u fun e w' => e = .returned (.float .f64 L) ∧ Below u.heap.size u w') ∧ (∀ u, RefOf n rb u → Calls Tryz.prog 35 #[.pointer (some ⟨rb, 0, none⟩), .int .i64 k] u fun e w' => e = .returned (.float .f64 L) ∧ Below u.heap.size u w') := by
  cases h : inR k (12 * n * n : Nat) with
  | false => exact ⟨0, fun u g => gLength_no h g, fun u g => rLength_no h g⟩
  | true =>
    obtain ⟨h1, h2⟩ := inR_iff.1 h
    obtain ⟨k, rfl⟩ := Int.eq_ofNat_of_zero_le h1
    obtain ⟨t, e1, e2, rfl⟩ := ed_ex hn.1 (k := k) (by omega)
    refine ⟨_, fun u g => gLength_ok hn (ed_lt hn.1 e1 e2) g, fun u g => ?_⟩
    rw [edT_eN hn.1 e1 e2]
    exact rLength_ok hn e1 e2 g
theorem both_gap {n gb rb : Nat} (hn : 1 ≤ n ∧ n ≤ 32) (k : Int) : ∃ (L : Nat), (∀ u, GridOf n gb u → Calls Tryz.prog 36 #[.pointer (some ⟨gb, 0, none⟩), .int .i64 k] u fun e w' => e = .returned (.float .f64 L) ∧ Below u.heap.size u w') ∧ (∀ u, RefOf n rb u → Calls Tryz.prog 37 #[.pointer (some ⟨rb, 0, none⟩), .int .i64 k] u fun e w' => e = .returned (.float .f64 L) ∧ Below u.heap.size u w') := by
  cases h : inR k (12 * n * n : Nat) with
  | false => exact ⟨0, fun u g => gGap_no h g, fun u g => rGap_no h g⟩
  | true =>
    obtain ⟨h1, h2⟩ := inR_iff.1 h
    obtain ⟨k, rfl⟩ := Int.eq_ofNat_of_zero_le h1
    obtain ⟨t, e1, e2, rfl⟩ := ed_ex hn.1 (k := k) (by omega)
    refine ⟨_, fun u g => gGap_ok hn (ed_lt hn.1 e1 e2) g, fun u g => ?_⟩
    rw [edT_eN hn.1 e1 e2]
    exact rGap_ok hn e1 e2 g
end Go.Proofs.YtnklgfmemelcpaaGreatDoor

/-
  Nets and numbers that the statements of layer 9 share: walks over the program.
-/
namespace Go.Proofs.YtnklgfmemelcpaaGreatDoor
open Go.RowKit Cu Tf
/-- x brought within n -/
def wi9 (x : Int) (n : Nat) : Nat := (x % 18446744073709551616 % n).toNat
theorem wi9_lt (x : Int) {n : Nat} (hn : 1 ≤ n) : wi9 x n < n := by
  unfold wi9
  have h1 := Int.emod_nonneg (x % 18446744073709551616) (b := (n : Int)) (by omega)
  have h2 := Int.emod_lt_of_pos (x % 18446744073709551616) (b := (n : Int)) (by omega)
  omega
theorem a9_1 : isL 1 1 = true ∧ eN 1 1 = 1 ∧ bsC 1 0 1 = 4 ∧ bsS 1 0 1 = 3 := by decide +kernel
theorem a9_2 : gT 1 (24 * 1 * 1) 1 2 = (0, -1) := by decide +kernel
theorem a9_3 : isL 1 0 = true ∧ eN 1 0 = 0 ∧ bsC 1 0 2 = 3 ∧ bsC 1 (bsC 1 0 0) ((bsS 1 0 0 + 2) % 4) = 2 := by decide +kernel
theorem a9_4 : arI (ArC 1 0) = 1431655765 := by decide +kernel
theorem W64_of {a : Int} (h : -9223372036854775808 ≤ a ∧ a ≤ 9223372036854775807) : W64 a := h
theorem aEdge {gb : Nat} {v : World} (g : GridOf 1 gb v) : Calls Tryz.prog 14 #[.pointer (some ⟨gb, 0, none⟩), .int .i64 1] v fun e w' => e = .returned (.tuple #[.agg #[.int .i64 0, .int .i64 1, .int .i64 4, .int .i64 3], .bool true]) ∧ Below v.heap.size v w' := by
  have h := gEdge_ok (t := 1) (by omega) (by omega) a9_1.1 g
  simp only [Nat.reduceDiv, Nat.reduceMod] at h
  rw [a9_1.2.1, a9_1.2.2.1, a9_1.2.2.2] at h
  exact h
theorem aAround {gb : Nat} {v : World} (g : GridOf 1 gb v) : Calls Tryz.prog 15 #[.pointer (some ⟨gb, 0, none⟩), .int .i64 1, .int .i64 2] v fun e w' => e = .returned (.tuple #[.int .i64 0, .int .i64 (-1)]) ∧ Below v.heap.size v w' := by
  have h := gAround_at (c := 1) (s := 2) (W64_of (by omega)) (W64_of (by omega)) g
  rw [a9_2] at h
  exact h
theorem aBehind {gb : Nat} {v : World} (g : GridOf 1 gb v) : Calls Tryz.prog 16 #[.pointer (some ⟨gb, 0, none⟩), .int .i64 0] v fun e w' => e = .returned (.tuple #[.int .i64 3, .int .i64 2, .bool true]) ∧ Below v.heap.size v w' := by
  have h := gBehind_ok (t := 0) (by omega) (by omega) a9_3.1 g
  simp only [Nat.reduceMod, Nat.zero_add, Nat.zero_div, Nat.zero_mod] at h
  rw [a9_3.2.1, a9_3.2.2.1, a9_3.2.2.2] at h
  exact h
theorem aArea {gb : Nat} {v : World} (g : GridOf 1 gb v) : Calls Tryz.prog 17 #[.pointer (some ⟨gb, 0, none⟩), .int .i64 0] v fun e w' => e = .returned (.int .i64 1431655765) ∧ Below v.heap.size v w' := by
  have h := gArea_ok (k := 0) (by omega) (by omega) g
  rw [a9_4] at h
  exact h
set_option maxHeartbeats 4000000 in
theorem awake9_at (w : World) (hF : Fr w) : Calls Tryz.prog 4 #[] w fun e w' => e = .returned (.bool true) ∧ Below w.heap.size w w' := by
  have NW := hid (new_at 1 w (by omega) hF)
  have NO := hid (fun u => new_no 33 u (by omega))
  clear hF
  go_enter Tryz.func4, Tryz.ntmps4
  go_wp2_with fail
  refine NW.out.mono ?_
  rintro e v1 ⟨gb, rfl, a1, -, g1⟩
  have AW1 : Hid (Ab w v1) := a1
  have G1 : Hid (GridOf 1 gb v1) := g1
  clear a1 g1 NW
  go_wp2_with fail
  refine Calls.mono (NO.out _) ?_
  rintro e vv ⟨rfl, hvv⟩
  have hvw := hvv.symm
  subst hvw
  go_wp2_with fail
  refine Calls.mono (aEdge G1.out) ?_
  rintro e v2 ⟨rfl, b2⟩
  have ST : Hid (Ab v1 (v2.alloc (.cells #[.int .i64 0, .int .i64 1, .int .i64 4, .int .i64 3] 37))) := Ab.call (show Ab _ _ from b2) (bl1 v2 (.cells #[.int .i64 0, .int .i64 1, .int .i64 4, .int .i64 3] 37))
  have AW2 : Hid (Ab w (v2.alloc (.cells #[.int .i64 0, .int .i64 1, .int .i64 4, .int .i64 3] 37))) := (AW1.out).trans ST.out
  have G2 : Hid (GridOf 1 gb (v2.alloc (.cells #[.int .i64 0, .int .i64 1, .int .i64 4, .int .i64 3] 37))) := G1.out.to ST.out
  have RE2 : Hid ((v2.alloc (.cells #[.int .i64 0, .int .i64 1, .int .i64 4, .int .i64 3] 37)).heap[v2.heap.size]? = some (.cells #[.int .i64 0, .int .i64 1, .int .i64 4, .int .i64 3] 37)) := heap_alloc_new _ _
  clear ST G1 AW1
  clear b2
  go_wp2_with fail
  refine Calls.mono (aAround G2.out) ?_
  rintro e v3 ⟨rfl, b3⟩
  have ST : Hid (Ab (v2.alloc (.cells #[.int .i64 0, .int .i64 1, .int .i64 4, .int .i64 3] 37)) v3) := b3
  have AW3 : Hid (Ab w v3) := (AW2.out).trans ST.out
  have RE3 : Hid (v3.heap[v2.heap.size]? = some (.cells #[.int .i64 0, .int .i64 1, .int .i64 4, .int .i64 3] 37)) := Ab.heap ST.out RE2.out
  have G3 : Hid (GridOf 1 gb v3) := G2.out.to ST.out
  clear ST RE2 G2 AW2
  clear b3
  go_wp2_with fail
  refine Calls.mono (aBehind G3.out) ?_
  rintro e v4 ⟨rfl, b4⟩
  have ST : Hid (Ab v3 v4) := b4
  have AW4 : Hid (Ab w v4) := (AW3.out).trans ST.out
  have RE4 : Hid (v4.heap[v2.heap.size]? = some (.cells #[.int .i64 0, .int .i64 1, .int .i64 4, .int .i64 3] 37)) := Ab.heap ST.out RE3.out
  have G4 : Hid (GridOf 1 gb v4) := G3.out.to ST.out
  clear ST RE3 G3 AW3
  clear b4
  have xE0 := cell_of_row _ _ 0 _ _ _ RE4.out
  have xE1 := cell_of_row _ _ 1 _ _ _ RE4.out
  have xE2 := cell_of_row _ _ 2 _ _ _ RE4.out
  have xE3 := cell_of_row _ _ 3 _ _ _ RE4.out
  have lE := lt_of_block RE4.out
  go_wp2_with fail
  refine Calls.mono (gCells_at G4.out) ?_
  rintro e vv ⟨rfl, hvv⟩
  have hvw := hvv.symm
  subst hvw
  clear xE0 xE1 xE2 xE3 lE
  go_wp2_with fail
  refine Calls.mono (gEdges_at G4.out) ?_
  rintro e vv ⟨rfl, hvv⟩
  have hvw := hvv.symm
  subst hvw
  go_wp2_with fail
  refine Calls.mono (aArea G4.out) ?_
  rintro e v5 ⟨rfl, b5⟩
  have ST : Hid (Ab v4 v5) := b5
  have AW5 : Hid (Ab w v5) := (AW4.out).trans ST.out
  have RE5 : Hid (v5.heap[v2.heap.size]? = some (.cells #[.int .i64 0, .int .i64 1, .int .i64 4, .int .i64 3] 37)) := Ab.heap ST.out RE4.out
  have G5 : Hid (GridOf 1 gb v5) := G4.out.to ST.out
  clear ST RE4 G4 AW4
  clear b5
  go_wp2
  go_ret
  exact ⟨rfl, AW5.out⟩
end Go.Proofs.YtnklgfmemelcpaaGreatDoor

/-
  A question to both nets: walk over the statement's own help.
-/
namespace Go.Proofs.YtnklgfmemelcpaaGreatDoor
open Go.RowKit Cu Tf
attribute [local go_sem] run_store_float
theorem rawSame9' (x : Nat) (v : World) : Calls Tryz.prog 33 #[.float .f64 x, .float .f64 x] v fun e w' => e = .returned (.bool true) ∧ w' = v := by
  have h := rawSame_any x x v
  rw [show sameB x x = true by unfold sameB; simp] at h
  exact h
set_option maxRecDepth 100000 in
set_option maxHeartbeats 16000000 in
theorem asked_go (p q : Option Addr) (a0 a1 a2 x0 x1 x2 x3 e0 s0 h0 h1 V : Int) (b hb : Bool) (L D : Nat) (w : World)
    (GE : Hid (∀ u, Ab w u → Calls Tryz.prog 14 #[.pointer p, .int .i64 a0] u fun e w' => e = .returned (.tuple #[.agg #[.int .i64 x0, .int .i64 x1, .int .i64 x2, .int .i64 x3], .bool b]) ∧ Below u.heap.size u w'))
    (GA : Hid (∀ u, Ab w u → Calls Tryz.prog 15 #[.pointer p, .int .i64 a1, .int .i64 a2] u fun e w' => e = .returned (.tuple #[.int .i64 e0, .int .i64 s0]) ∧ Below u.heap.size u w'))
    (GB : Hid (∀ u, Ab w u → Calls Tryz.prog 16 #[.pointer p, .int .i64 a0] u fun e w' => e = .returned (.tuple #[.int .i64 h0, .int .i64 h1, .bool hb]) ∧ Below u.heap.size u w'))
    (GR : Hid (∀ u, Ab w u → Calls Tryz.prog 17 #[.pointer p, .int .i64 a1] u fun e w' => e = .returned (.int .i64 V) ∧ Below u.heap.size u w'))
    (GL : Hid (∀ u, Ab w u → Calls Tryz.prog 34 #[.pointer p, .int .i64 a0] u fun e w' => e = .returned (.float .f64 L) ∧ Below u.heap.size u w'))
    (GP : Hid (∀ u, Ab w u → Calls Tryz.prog 36 #[.pointer p, .int .i64 a0] u fun e w' => e = .returned (.float .f64 D) ∧ Below u.heap.size u w'))
    (RE : Hid (∀ u, Ab w u → Calls Tryz.prog 29 #[.pointer q, .int .i64 a0] u fun e w' => e = .returned (.tuple #[.agg #[.int .i64 x0, .int .i64 x1, .int .i64 x2, .int .i64 x3], .bool b]) ∧ Below u.heap.size u w'))
    (RA : Hid (∀ u, Ab w u → Calls Tryz.prog 30 #[.pointer q, .int .i64 a1, .int .i64 a2] u fun e w' => e = .returned (.tuple #[.int .i64 e0, .int .i64 s0]) ∧ Below u.heap.size u w'))
    (RB : Hid (∀ u, Ab w u → Calls Tryz.prog 31 #[.pointer q, .int .i64 a0] u fun e w' => e = .returned (.tuple #[.int .i64 h0, .int .i64 h1, .bool hb]) ∧ Below u.heap.size u w'))
    (RR : Hid (∀ u, Ab w u → Calls Tryz.prog 32 #[.pointer q, .int .i64 a1] u fun e w' => e = .returned (.int .i64 V) ∧ Below u.heap.size u w'))
    (RL : Hid (∀ u, Ab w u → Calls Tryz.prog 35 #[.pointer q, .int .i64 a0] u fun e w' => e = .returned (.float .f64 L) ∧ Below u.heap.size u w'))
    (RP : Hid (∀ u, Ab w u → Calls Tryz.prog 37 #[.pointer q, .int .i64 a0] u fun e w' => e = .returned (.float .f64 D) ∧ Below u.heap.size u w')) :
    Calls Tryz.prog 13 #[.pointer p, .pointer q, .agg #[.int .i64 a0, .int .i64 a1, .int .i64 a2]] w fun e w' => e = .returned (.bool true) ∧ Below w.heap.size w w' := by
  obtain ⟨ga, hga⟩ : ∃ g, w.heap.size = g := ⟨_, rfl⟩
  have RO0 : Hid ((w.alloc (.cells #[.int .i64 a0, .int .i64 a1, .int .i64 a2] 34)).heap[ga]? = some (.cells #[.int .i64 a0, .int .i64 a1, .int .i64 a2] 34)) := by rw [← hga]; exact heap_alloc_new _ _
  have AW0 : Hid (Ab w (w.alloc (.cells #[.int .i64 a0, .int .i64 a1, .int .i64 a2] 34))) := bl1 w _
  go_enter Tryz.func13, Tryz.ntmps13
  go_upto_region 1 with fail
  clear hga
  have xO0 := cell_of_row _ _ 0 _ _ _ RO0.out
  have xO1 := cell_of_row _ _ 1 _ _ _ RO0.out
  have xO2 := cell_of_row _ _ 2 _ _ _ RO0.out
  have lO := lt_of_block RO0.out
  go_wp2_with fail
  refine Calls.mono (GE.out _ AW0.out) ?_
  rintro e v1 ⟨rfl, b1⟩
  clear xO0 xO1 xO2 lO
  have ST : Hid (Ab (w.alloc (.cells #[.int .i64 a0, .int .i64 a1, .int .i64 a2] 34)) (v1.alloc (.cells #[.int .i64 x0, .int .i64 x1, .int .i64 x2, .int .i64 x3] 37))) := Ab.call (show Ab _ _ from b1) (bl1 v1 (.cells #[.int .i64 x0, .int .i64 x1, .int .i64 x2, .int .i64 x3] 37))
  have AW1 : Hid (Ab w (v1.alloc (.cells #[.int .i64 x0, .int .i64 x1, .int .i64 x2, .int .i64 x3] 37))) := (AW0.out).trans ST.out
  have RO1 : Hid ((v1.alloc (.cells #[.int .i64 x0, .int .i64 x1, .int .i64 x2, .int .i64 x3] 37)).heap[ga]? = some (.cells #[.int .i64 a0, .int .i64 a1, .int .i64 a2] 34)) := Ab.heap ST.out RO0.out
  have RX1 : Hid ((v1.alloc (.cells #[.int .i64 x0, .int .i64 x1, .int .i64 x2, .int .i64 x3] 37)).heap[v1.heap.size]? = some (.cells #[.int .i64 x0, .int .i64 x1, .int .i64 x2, .int .i64 x3] 37)) := heap_alloc_new _ _
  clear ST RO0 AW0
  clear b1
  have xO0 := cell_of_row _ _ 0 _ _ _ RO1.out
  have xO1 := cell_of_row _ _ 1 _ _ _ RO1.out
  have xO2 := cell_of_row _ _ 2 _ _ _ RO1.out
  have lO := lt_of_block RO1.out
  go_wp2_with fail
  refine Calls.mono (RE.out _ AW1.out) ?_
  rintro e v2 ⟨rfl, b2⟩
  clear xO0 xO1 xO2 lO
  have ST : Hid (Ab (v1.alloc (.cells #[.int .i64 x0, .int .i64 x1, .int .i64 x2, .int .i64 x3] 37)) (v2.alloc (.cells #[.int .i64 x0, .int .i64 x1, .int .i64 x2, .int .i64 x3] 37))) := Ab.call (show Ab _ _ from b2) (bl1 v2 (.cells #[.int .i64 x0, .int .i64 x1, .int .i64 x2, .int .i64 x3] 37))
  have AW2 : Hid (Ab w (v2.alloc (.cells #[.int .i64 x0, .int .i64 x1, .int .i64 x2, .int .i64 x3] 37))) := (AW1.out).trans ST.out
  have RO2 : Hid ((v2.alloc (.cells #[.int .i64 x0, .int .i64 x1, .int .i64 x2, .int .i64 x3] 37)).heap[ga]? = some (.cells #[.int .i64 a0, .int .i64 a1, .int .i64 a2] 34)) := Ab.heap ST.out RO1.out
  have RX2 : Hid ((v2.alloc (.cells #[.int .i64 x0, .int .i64 x1, .int .i64 x2, .int .i64 x3] 37)).heap[v1.heap.size]? = some (.cells #[.int .i64 x0, .int .i64 x1, .int .i64 x2, .int .i64 x3] 37)) := Ab.heap ST.out RX1.out
  have RY2 : Hid ((v2.alloc (.cells #[.int .i64 x0, .int .i64 x1, .int .i64 x2, .int .i64 x3] 37)).heap[v2.heap.size]? = some (.cells #[.int .i64 x0, .int .i64 x1, .int .i64 x2, .int .i64 x3] 37)) := heap_alloc_new _ _
  clear ST RO1 RX1 AW1
  clear b2
  have xO0 := cell_of_row _ _ 0 _ _ _ RO2.out
  have xO1 := cell_of_row _ _ 1 _ _ _ RO2.out
  have xO2 := cell_of_row _ _ 2 _ _ _ RO2.out
  have lO := lt_of_block RO2.out
  have xX0 := cell_of_row _ _ 0 _ _ _ RX2.out
  have xX1 := cell_of_row _ _ 1 _ _ _ RX2.out
  have xX2 := cell_of_row _ _ 2 _ _ _ RX2.out
  have xX3 := cell_of_row _ _ 3 _ _ _ RX2.out
  have lX := lt_of_block RX2.out
  have xY0 := cell_of_row _ _ 0 _ _ _ RY2.out
  have xY1 := cell_of_row _ _ 1 _ _ _ RY2.out
  have xY2 := cell_of_row _ _ 2 _ _ _ RY2.out
  have xY3 := cell_of_row _ _ 3 _ _ _ RY2.out
  have lY := lt_of_block RY2.out
  go_wp2_with fail
  refine Calls.mono (GA.out _ AW2.out) ?_
  rintro e v3 ⟨rfl, b3⟩
  clear xO0 xO1 xO2 lO xX0 xX1 xX2 xX3 lX xY0 xY1 xY2 xY3 lY
  have ST : Hid (Ab (v2.alloc (.cells #[.int .i64 x0, .int .i64 x1, .int .i64 x2, .int .i64 x3] 37)) v3) := b3
  have AW3 : Hid (Ab w v3) := (AW2.out).trans ST.out
  have RO3 : Hid (v3.heap[ga]? = some (.cells #[.int .i64 a0, .int .i64 a1, .int .i64 a2] 34)) := Ab.heap ST.out RO2.out
  have RX3 : Hid (v3.heap[v1.heap.size]? = some (.cells #[.int .i64 x0, .int .i64 x1, .int .i64 x2, .int .i64 x3] 37)) := Ab.heap ST.out RX2.out
  have RY3 : Hid (v3.heap[v2.heap.size]? = some (.cells #[.int .i64 x0, .int .i64 x1, .int .i64 x2, .int .i64 x3] 37)) := Ab.heap ST.out RY2.out
  clear ST RO2 RX2 RY2 AW2
  clear b3
  clear RX3 RY3
  have xO0 := cell_of_row _ _ 0 _ _ _ RO3.out
  have xO1 := cell_of_row _ _ 1 _ _ _ RO3.out
  have xO2 := cell_of_row _ _ 2 _ _ _ RO3.out
  have lO := lt_of_block RO3.out
  go_wp2_with fail
  refine Calls.mono (RA.out _ AW3.out) ?_
  rintro e v4 ⟨rfl, b4⟩
  clear xO0 xO1 xO2 lO
  have ST : Hid (Ab v3 v4) := b4
  have AW4 : Hid (Ab w v4) := (AW3.out).trans ST.out
  have RO4 : Hid (v4.heap[ga]? = some (.cells #[.int .i64 a0, .int .i64 a1, .int .i64 a2] 34)) := Ab.heap ST.out RO3.out
  clear ST RO3 AW3
  clear b4
  have xO0 := cell_of_row _ _ 0 _ _ _ RO4.out
  have xO1 := cell_of_row _ _ 1 _ _ _ RO4.out
  have xO2 := cell_of_row _ _ 2 _ _ _ RO4.out
  have lO := lt_of_block RO4.out
  go_wp2_with fail
  refine Calls.mono (GB.out _ AW4.out) ?_
  rintro e v5 ⟨rfl, b5⟩
  clear xO0 xO1 xO2 lO
  have ST : Hid (Ab v4 v5) := b5
  have AW5 : Hid (Ab w v5) := (AW4.out).trans ST.out
  have RO5 : Hid (v5.heap[ga]? = some (.cells #[.int .i64 a0, .int .i64 a1, .int .i64 a2] 34)) := Ab.heap ST.out RO4.out
  clear ST RO4 AW4
  clear b5
  have xO0 := cell_of_row _ _ 0 _ _ _ RO5.out
  have xO1 := cell_of_row _ _ 1 _ _ _ RO5.out
  have xO2 := cell_of_row _ _ 2 _ _ _ RO5.out
  have lO := lt_of_block RO5.out
  go_wp2_with fail
  refine Calls.mono (RB.out _ AW5.out) ?_
  rintro e v6 ⟨rfl, b6⟩
  clear xO0 xO1 xO2 lO
  have ST : Hid (Ab v5 v6) := b6
  have AW6 : Hid (Ab w v6) := (AW5.out).trans ST.out
  have RO6 : Hid (v6.heap[ga]? = some (.cells #[.int .i64 a0, .int .i64 a1, .int .i64 a2] 34)) := Ab.heap ST.out RO5.out
  clear ST RO5 AW5
  clear b6
  go_upto_region 13 with fail
  obtain ⟨UU, F, hF1, hF2⟩ := cls v6
  have HU := hid hF2
  have HU1 := hid hF1
  have HW : Hid (∀ u, Ab w (F u)) := fun u => (AW6.out).trans (hF1 u)
  have xO0 : ∀ u, (F u).cell? ⟨ga, 0, none⟩ = some (.int .i64 a0) := fun u => cell_of_row _ _ 0 _ _ _ ((hF1 u).heap RO6.out)
  have xO1 : ∀ u, (F u).cell? ⟨ga, 1, none⟩ = some (.int .i64 a1) := fun u => cell_of_row _ _ 1 _ _ _ ((hF1 u).heap RO6.out)
  have xO2 : ∀ u, (F u).cell? ⟨ga, 2, none⟩ = some (.int .i64 a2) := fun u => cell_of_row _ _ 2 _ _ _ ((hF1 u).heap RO6.out)
  have SS : Hid (∀ (x : Nat) (v : World), Calls Tryz.prog 33 #[.float .f64 x, .float .f64 x] v fun e w' => e = .returned (.bool true) ∧ Below v.heap.size v w') := fun x v => (rawSame9' x v).mono fun _ _ ⟨he, hw⟩ => ⟨he, by rw [hw]; exact Below.refl _ _⟩
  have hV : (V == V) = true := by simp
  have DD := HU.out _ (Ab.refl v6).drew
  clear hF1 hF2
  refine region_cls F (by kernel_rfl) (by kernel_rfl) DD ?_
  skip
  repeat (go_big_quiet_step (first
    | (with_reducible rfl)
    | (go_at_call 17; exact calls_cls HU HU1 (GR.out _ (HW.out _)))
    | (go_at_call 34; exact calls_cls HU HU1 (GL.out _ (HW.out _)))
    | (go_at_call 36; exact calls_cls HU HU1 (GP.out _ (HW.out _)))
    | (go_at_call 32; exact calls_cls HU HU1 (RR.out _ (HW.out _)))
    | (go_at_call 35; exact calls_cls HU HU1 (RL.out _ (HW.out _)))
    | (go_at_call 37; exact calls_cls HU HU1 (RP.out _ (HW.out _)))
    | (go_at_call 33; exact calls_cls HU HU1 (SS.out _ _))))
  refine wpQuiet_nil ?_
  intro wz hwz
  obtain ⟨u, hu⟩ := hwz
  have bz : Ab v6 wz := by rw [hu]; exact HU1.out u
  clear hu u
  clear HU HU1 DD HW xO0 xO1 xO2
  clear F UU
  have ST : Hid (Ab v6 wz) := bz
  have AW7 : Hid (Ab w wz) := (AW6.out).trans ST.out
  have RO7 : Hid (wz.heap[ga]? = some (.cells #[.int .i64 a0, .int .i64 a1, .int .i64 a2] 34)) := Ab.heap ST.out RO6.out
  clear ST RO6 AW6
  clear bz
  go_wp2
  go_ret
  exact ⟨by first | rfl | (simp; done), AW7.out⟩
theorem asked_nets {n gb rb : Nat} (hn : 1 ≤ n ∧ n ≤ 32) {a0 a1 a2 : Int} (h1 : W64 a1) (h2 : W64 a2) {w : World} (g : GridOf n gb w) (r : RefOf n rb w) :
    Calls Tryz.prog 13 #[.pointer (some ⟨gb, 0, none⟩), .pointer (some ⟨rb, 0, none⟩), .agg #[.int .i64 a0, .int .i64 a1, .int .i64 a2]] w fun e w' => e = .returned (.bool true) ∧ Below w.heap.size w w' := by
  obtain ⟨x0, x1, x2, x3, b, E1, E2⟩ := both_edge (gb := gb) (rb := rb) hn a0
  obtain ⟨e0, s0, A1, A2⟩ := both_around (gb := gb) (rb := rb) hn h1 h2
  obtain ⟨y0, y1, hb, B1, B2⟩ := both_behind (gb := gb) (rb := rb) hn a0
  obtain ⟨V, V1, V2⟩ := both_area (gb := gb) (rb := rb) hn a1
  obtain ⟨L, L1, L2⟩ := both_len (gb := gb) (rb := rb) hn a0
  obtain ⟨D, D1, D2⟩ := both_gap (gb := gb) (rb := rb) hn a0
  exact asked_go _ _ a0 a1 a2 x0 x1 x2 x3 e0 s0 y0 y1 V b hb L D w (fun u hu => E1 u (g.to hu)) (fun u hu => A1 u (g.to hu)) (fun u hu => B1 u (g.to hu)) (fun u hu => V1 u (g.to hu)) (fun u hu => L1 u (g.to hu)) (fun u hu => D1 u (g.to hu))
    (fun u hu => E2 u (r.to hu)) (fun u hu => A2 u (r.to hu)) (fun u hu => B2 u (r.to hu)) (fun u hu => V2 u (r.to hu)) (fun u hu => L2 u (r.to hu)) (fun u hu => D2 u (r.to hu))
theorem asked_none (a0 a1 a2 : Int) (w : World) :
    Calls Tryz.prog 13 #[.pointer none, .pointer none, .agg #[.int .i64 a0, .int .i64 a1, .int .i64 a2]] w fun e w' => e = .returned (.bool true) ∧ Below w.heap.size w w' :=
  asked_go none none a0 a1 a2 0 0 0 0 0 0 0 0 0 false false 0 0 w (fun u _ => nEdge a0 u) (fun u _ => nAround a1 a2 u) (fun u _ => nBehind a0 u) (fun u _ => nArea a1 u) (fun u _ => nLength a0 u) (fun u _ => nGap a0 u)
    (fun u _ => mEdge a0 u) (fun u _ => mAround a1 a2 u) (fun u _ => mBehind a0 u) (fun u _ => mArea a1 u) (fun u _ => mLength a0 u) (fun u _ => mGap a0 u)
end Go.Proofs.YtnklgfmemelcpaaGreatDoor
