/-
  Some of the texts of this proof, one behind the other.
-/
import Derived.Deep.RegionHeld3
import Derived.Deep.MidRow
import Derived.Test.YtebnjbljabjgaaaDoorG05
namespace Go.Proofs.YtebnjbljabjgaaaDoor
open Go.RowKit Cu
/-- as Ab, but for blocks g and h, which are points -/
def Ay (W : World) (g h : Nat) (w : World) : Prop :=
  (w.os = W.os ∧ w.tape = W.tape ∧ w.output = W.output ∧ W.heap.size ≤ w.heap.size ∧ ∀ k, k < W.heap.size → k ≠ g → k ≠ h → w.heap[k]? = W.heap[k]?) ∧
  (∃ a b c : Value, w.heap[g]? = some (.cells #[a, b, c] 67)) ∧ (∃ a b c : Value, w.heap[h]? = some (.cells #[a, b, c] 67))
theorem Ab.y {W w : World} (h : Ab W w) {g k : Nat} {a b c x y z : Value} (hg : W.heap[g]? = some (.cells #[a, b, c] 67)) (hk : W.heap[k]? = some (.cells #[x, y, z] 67)) : Ay W g k w :=
  ⟨⟨Below.os h, Below.tape h, Below.output h, Below.size h, fun i hi _ _ => Below.block h i hi⟩, ⟨_, _, _, h.heap hg⟩, ⟨_, _, _, h.heap hk⟩⟩
theorem Ay.drew {W w : World} {g h : Nat} (a : Ay W g h w) : Ay W g h w.drew := a
theorem Ay.call {W u w : World} {g h : Nat} (a : Ay W g h u) (b : Below u.heap.size u w) : Ay W g h w := by
  obtain ⟨⟨h1, h2, h3, h4, h5⟩, ⟨x, y, z, hg⟩, ⟨x', y', z', hh⟩⟩ := a
  exact ⟨⟨b.os.trans h1, b.tape.trans h2, b.output.trans h3, Nat.le_trans h4 b.size, fun k hk hne hne2 => (b.block k (by omega)).trans (h5 k hk hne hne2)⟩, ⟨x, y, z, (b.block g (lt_of_block hg)).trans hg⟩, ⟨x', y', z', (b.block h (lt_of_block hh)).trans hh⟩⟩
theorem set_k {a b c v : Value} (k : Nat) : ∃ x y z : Value, #[a, b, c].setIfInBounds k v = #[x, y, z] := by
  rcases k with _ | _ | _ | k
  · exact ⟨v, b, c, rfl⟩
  · exact ⟨a, v, c, rfl⟩
  · exact ⟨a, b, v, rfl⟩
  · exact ⟨a, b, c, by simp [Array.setIfInBounds]⟩
theorem Ay.setg {W w : World} {g h : Nat} (a : Ay W g h w) (hne : g ≠ h) (k : Nat) (v : Value) : Ay W g h (w.setCell ⟨g, k, none⟩ v) := by
  obtain ⟨⟨h1, h2, h3, h4, h5⟩, ⟨x, y, z, hg⟩, ⟨x', y', z', hh⟩⟩ := a
  obtain ⟨p, q, r, e⟩ := set_k (a := x) (b := y) (c := z) (v := v) k
  have o := one_set (k := k) (v := v) hg
  rw [e] at o
  exact ⟨⟨h1, h2, h3, by simpa [World.setCell] using h4, fun i hi n1 n2 => (Below.heap_setCell _ _ _ _ n1).trans (h5 i hi n1 n2)⟩, ⟨p, q, r, o⟩, ⟨x', y', z', (Below.heap_setCell _ _ _ _ (by exact fun e => hne e.symm)).trans hh⟩⟩
theorem Ay.swap {W w : World} {g h : Nat} (a : Ay W g h w) : Ay W h g w :=
  ⟨⟨a.1.1, a.1.2.1, a.1.2.2.1, a.1.2.2.2.1, fun k hk n1 n2 => a.1.2.2.2.2 k hk n2 n1⟩, a.2.2, a.2.1⟩
theorem Ay.seth {W w : World} {g h : Nat} (a : Ay W g h w) (hne : g ≠ h) (k : Nat) (v : Value) : Ay W g h (w.setCell ⟨h, k, none⟩ v) := (a.swap.setg hne.symm k v).swap
theorem Ay.heap {W w : World} {g h k : Nat} {o : Obj} (a : Ay W g h w) (n1 : k ≠ g) (n2 : k ≠ h) (hk : W.heap[k]? = some o) : w.heap[k]? = some o := by
  have hlt : k < W.heap.size := by
    rcases Nat.lt_or_ge k W.heap.size with h1 | h1
    · exact h1
    · rw [Array.getElem?_eq_none h1] at hk; cases hk
  exact (a.1.2.2.2.2 k hlt n1 n2).trans hk
theorem Ay.ab {w0 W w : World} {g h : Nat} (a : Ay W g h w) (b : Ab w0 W) (hg : w0.heap.size ≤ g) (hh : w0.heap.size ≤ h) : Ab w0 w := by
  obtain ⟨⟨h1, h2, h3, h4, h5⟩, _⟩ := a
  exact ⟨h1.trans b.os, h2.trans b.tape, h3.trans b.output, Nat.le_trans (Below.size b) h4, fun k hk => (h5 k (Nat.lt_of_lt_of_le hk (Below.size b)) (by omega) (by omega)).trans (b.block k hk)⟩
theorem Ay.factsg {W w : World} {g h : Nat} (a : Ay W g h w) : (w.frozen? ⟨g, 0, none⟩ = false ∧ w.frozen? ⟨g, 1, none⟩ = false ∧ w.frozen? ⟨g, 2, none⟩ = false) ∧ w.cell? ⟨g, 0, none⟩ = some (rv w g 0) ∧ w.cell? ⟨g, 1, none⟩ = some (rv w g 1) ∧ w.cell? ⟨g, 2, none⟩ = some (rv w g 2) := by
  obtain ⟨_, ⟨x, y, z, hg⟩, _⟩ := a
  have e : ∀ k, w.cell? ⟨g, k, none⟩ = #[x, y, z][k]? := fun k => cell_of_row _ _ k _ _ _ hg
  refine ⟨⟨free_row hg 0, free_row hg 1, free_row hg 2⟩, ?_, ?_, ?_⟩ <;> simp [rv, e]
set_option maxHeartbeats 8000000 in
theorem beside_go (n c f i j s f2 i2 j2 s2 : Nat) (p q r bk : P3) (d : Int) (w : World) (hn : 1 ≤ n ∧ n ≤ 32) (hf : f < 6) (hs : s < 4) (hf2 : f2 < 6) (hi2 : i2 < n) (hj2 : j2 < n) (hs2 : s2 < 4) (hi : i < n) (hj : j < n) (h : Fr w)
    (PL : Hid (∀ w, Calls Tryd.prog 24 #[.int .i64 n, .int .i64 c] w fun e w' => e = .returned (.tuple #[.int .i64 f, .int .i64 i, .int .i64 j, .bool true]) ∧ ∃ k, w' = w.drewN k))
    (hp : md n f i j = p) (hq : pl p (wy f s) = q) (hd : dt q (wy f s) = d) (sp : Sm p) (sq : Sm q)
    (hr : md n f2 i2 j2 = r) (hb : wy f2 s2 = bk) (hw : (¬ d = n ∧ pl q (wy f s) = r ∧ sc (-1) (wy f s) = bk) ∨ (d = n ∧ pl q (sc (-1) (cC f)) = r ∧ cC f = bk)) :
    Calls Tryd.prog 23 #[.int .i64 n, .int .i64 c, .int .i64 s] w fun e w' => e = .returned (.tuple #[.int .i64 (cN n f2 i2 j2), .int .i64 s2]) ∧ Below w.heap.size w w' := by
  have CT : Hid (∀ w, Calls Tryd.prog 39 #[.int .i64 s, .int .i64 4] w fun e w' => e = .returned (.bool true) ∧ w' = w) := fun w => by
    have := counts_at s 4 w
    rwa [show inR s 4 = true by rw [inR_iff]; omega] at this
  have WY := hid (fun (u : World) (hu : Ab w u) => way_at f s u hf hs (h.to hu))
  have MI : Hid (∀ u, Ab w u → Calls Tryd.prog 41 #[.int .i64 n, .int .i64 f, .int .i64 i, .int .i64 j] u fun e w' => e = .returned (.agg #[.int .i64 p.1, .int .i64 p.2.1, .int .i64 p.2.2]) ∧ Below u.heap.size u w') := fun u hu => by
    rw [← hp]; exact middle_at n f i j u (by omega) hf (by omega) (by omega) (h.to hu)
  have PQ : Hid (∀ u, Calls Tryd.prog 42 #[.agg #[.int .i64 p.1, .int .i64 p.2.1, .int .i64 p.2.2], .agg #[.int .i64 (wy f s).1, .int .i64 (wy f s).2.1, .int .i64 (wy f s).2.2]] u fun e w' => e = .returned (.agg #[.int .i64 q.1, .int .i64 q.2.1, .int .i64 q.2.2]) ∧ Below u.heap.size u w') := fun u => by
    rw [← hq]; exact plus_at p (wy f s) u sp (un_wy hf).sm
  have TM := hid (fun u => times_ex (wy f s) (-1) u (sc_sm (un_wy hf) (by omega)))
  have AL : Hid (∀ u, Calls Tryd.prog 44 #[.agg #[.int .i64 q.1, .int .i64 q.2.1, .int .i64 q.2.2], .agg #[.int .i64 (wy f s).1, .int .i64 (wy f s).2.1, .int .i64 (wy f s).2.2]] u fun e w' => e = .returned (.int .i64 d) ∧ Below u.heap.size u w') := fun u => by
    rw [← hd]; exact along_at q (wy f s) u sq (un_wy hf)
  have HH := hid h
  have R0 := hid (Ab.refl w)
  have HP := hid hp
  clear h hp hd sp
  go_enter Tryd.func23, Tryd.ntmps23
  go_upto_region 4 with (first
    | (go_at_call 24; refine (PL.out _).mono ?_; rintro e w' ⟨rfl, k, rfl⟩)
    | (go_at_call 39; refine (CT.out _).mono ?_; rintro e w' ⟨rfl, rfl⟩))
  have A1 : Ab w (w.drewN k) := (Ab.refl w).drewN k
  go_wp2_with fail
  refine (WY.out _ A1).mono ?_
  rintro e w1 ⟨rfl, b1⟩
  have A2 := hid (A1.call b1)
  clear b1 A1 PL CT WY R0
  go_upto_region 5 with fail
  generalize hW : World.alloc w1 _ = W
  obtain ⟨g12, hg12⟩ : ∃ g, w1.heap.size = g := ⟨_, rfl⟩
  have r12 : W.heap[g12]? = some (.cells #[.int .i64 (wy f s).1, .int .i64 (wy f s).2.1, .int .i64 (wy f s).2.2] 67) := by rw [← hW, ← hg12]; exact heap_alloc_new _ _
  have A3 : Ab w W := by rw [← hW]; exact A2.out.alloc _
  rw [hg12]
  clear hW hg12 A2
  have KS : Hid (∀ w', Ab W w' → Ab W w' ∧ w'.cell? ⟨g12, 0, none⟩ = some (.int .i64 (wy f s).1) ∧ w'.cell? ⟨g12, 1, none⟩ = some (.int .i64 (wy f s).2.1) ∧ w'.cell? ⟨g12, 2, none⟩ = some (.int .i64 (wy f s).2.2)) := fun w' hw => ⟨hw, cell_of_row _ _ 0 _ _ _ (hw.heap r12), cell_of_row _ _ 1 _ _ _ (hw.heap r12), cell_of_row _ _ 2 _ _ _ (hw.heap r12)⟩
  have AW := Ab.refl W
  have R12 := hid r12
  have A3' := hid A3
  have MI' : Hid (∀ u, Ab W u → Calls Tryd.prog 41 #[.int .i64 n, .int .i64 f, .int .i64 i, .int .i64 j] u fun e w' => e = .returned (.agg #[.int .i64 p.1, .int .i64 p.2.1, .int .i64 p.2.2]) ∧ Below u.heap.size u w' ∧ Ab W w') := fun u hu => (MI.out u (A3.trans hu)).mono fun _ _ ⟨he, hb⟩ => ⟨he, hb, hu.call hb⟩
  have PQ' : Hid (∀ u, Ab W u → Calls Tryd.prog 42 #[.agg #[.int .i64 p.1, .int .i64 p.2.1, .int .i64 p.2.2], .agg #[.int .i64 (wy f s).1, .int .i64 (wy f s).2.1, .int .i64 (wy f s).2.2]] u fun e w' => e = .returned (.agg #[.int .i64 q.1, .int .i64 q.2.1, .int .i64 q.2.2]) ∧ Below u.heap.size u w' ∧ Ab W w') := fun u hu => (PQ.out u).mono fun _ _ ⟨he, hb⟩ => ⟨he, hb, hu.call hb⟩
  clear r12 A3 MI PQ
  go_cut [13] from 37 to 43 (fun s13 wx => ∃ g13, s13 = .pointer (some ⟨g13, 0, none⟩) ∧ Ab W wx ∧ W.heap.size ≤ g13 ∧ wx.heap[g13]? = some (.cells #[.int .i64 q.1, .int .i64 q.2.1, .int .i64 q.2.2] 67))
  case first =>
    go_region_held3 (fun w' => Ab W w' ∧ w'.cell? ⟨g12, 0, none⟩ = some (.int .i64 (wy f s).1) ∧ w'.cell? ⟨g12, 1, none⟩ = some (.int .i64 (wy f s).2.1) ∧ w'.cell? ⟨g12, 2, none⟩ = some (.int .i64 (wy f s).2.2)) ((refine KS.out _ ?_; (with_reducible (repeat (first | assumption | apply Ab.drew | apply Ab.alloc | (refine Ab.call ?_ (by assumption)) | (refine Ab.setk ?_ (by first | assumption | exact Nat.le_refl _ | omega) _)))); done)) (first
      | (go_at_call 41; refine (MI'.out _ ?_).mono ?_; (exact And.left (by assumption)); rintro e w2 ⟨rfl, b2, a2⟩; have l2 : W.heap.size ≤ w2.heap.size := Nat.le_trans (by first | exact Nat.le_refl _ | (simp; done)) (Below.size b2); (try (have n2 := newrow b2; have n2' := rowfacts n2; obtain ⟨⟨_, _, _⟩, _, _, _⟩ := n2')))
      | (go_at_call 42; refine (PQ'.out _ ?_).mono ?_; (exact And.left (by assumption)); rintro e w3 ⟨rfl, b3, a3⟩; (try (have n3 := Ab.heap b3 n2; have n3' := rowfacts n3; obtain ⟨⟨_, _, _⟩, _, _, _⟩ := n3')); (try (have n4 := newrow' b3; have n4' := rowfacts n4; obtain ⟨⟨_, _, _⟩, _, _, _⟩ := n4'))))
    all_goals go_wp2_with fail
    all_goals go_meet
    all_goals refine ⟨_, rfl, ?_, ?_, ?_⟩
    all_goals first
      | exact heap_alloc_new _ _
      | exact row3 n4
      | exact row3 n3
      | exact a3.size
      | exact l2
      | exact Nat.le_refl _
      | ((with_reducible (repeat (first | assumption | apply Ab.drew | apply Ab.alloc | (refine Ab.setk ?_ (by first | assumption | exact Nat.le_refl _ | omega) _)))); done)
  case rest =>
  obtain ⟨g13, rfl, A4, hg13, r13⟩ := hcut
  have r12 := A4.heap R12.out
  have hA := hid (A3'.out.trans A4)
  clear KS AW R12 A3' MI' PQ' hg13 A4
  have KS : Hid (∀ w', Ab wc w' → Ab wc w' ∧ w'.cell? ⟨g12, 0, none⟩ = some (.int .i64 (wy f s).1) ∧ w'.cell? ⟨g12, 1, none⟩ = some (.int .i64 (wy f s).2.1) ∧ w'.cell? ⟨g12, 2, none⟩ = some (.int .i64 (wy f s).2.2)) := fun w' hw => ⟨hw, cell_of_row _ _ 0 _ _ _ (hw.heap r12), cell_of_row _ _ 1 _ _ _ (hw.heap r12), cell_of_row _ _ 2 _ _ _ (hw.heap r12)⟩
  have AW := Ab.refl wc
  have R12 := hid r12
  have R13 := hid r13
  clear r12 r13
  go_upto_region 6 with fail
  go_cut [14, 15] from 44 to 46 (fun s14 s15 wx => ∃ g14 g15, s14 = .pointer (some ⟨g14, 0, none⟩) ∧ s15 = .pointer (some ⟨g15, 0, none⟩) ∧ Ab wc wx ∧ wc.heap.size ≤ g14 ∧ wc.heap.size ≤ g15 ∧ g14 ≠ g15 ∧ wx.heap[g14]? = some (.cells #[.int .i64 (wy f s).1, .int .i64 (wy f s).2.1, .int .i64 (wy f s).2.2] 67) ∧ wx.heap[g15]? = some (.cells #[.int .i64 (sc (-1) (wy f s)).1, .int .i64 (sc (-1) (wy f s)).2.1, .int .i64 (sc (-1) (wy f s)).2.2] 67))
  case first =>
    go_region_held3 (fun w' => Ab wc w' ∧ w'.cell? ⟨g12, 0, none⟩ = some (.int .i64 (wy f s).1) ∧ w'.cell? ⟨g12, 1, none⟩ = some (.int .i64 (wy f s).2.1) ∧ w'.cell? ⟨g12, 2, none⟩ = some (.int .i64 (wy f s).2.2)) ((refine KS.out _ ?_; (with_reducible (repeat (first | assumption | apply Ab.drew | apply Ab.alloc | (refine Ab.call ?_ (by assumption)) | (refine Ab.setk ?_ (by first | assumption | exact Nat.le_refl _ | omega) _)))); done)) (first
      | (go_at_call 43; refine (TM.out _).mono ?_; rintro e w2 ⟨rfl, rfl⟩))
    all_goals go_wp2_with fail
    all_goals go_meet
    all_goals refine ⟨_, _, rfl, rfl, ?_, ?_, ?_, ?_, ?_, ?_⟩
    all_goals first
      | ((with_reducible (repeat (first | assumption | apply Ab.drew | apply Ab.alloc))); done)
      | omega
      | (rw [heap_drew]; (repeat (first | exact heap_at _ _ _ (by first | (simp; done) | (simp; omega)) | rw [Below.heap_alloc _ _ _ (by first | (simp; done) | (simp; omega))])); done)
  case rest =>
  obtain ⟨g14, g15, rfl, rfl, A6, h14, h15, hne, r14, r15⟩ := hcut
  have r12 := A6.heap R12.out
  have r13 := A6.heap R13.out
  have A7 := hid (hA.out.trans A6)
  have n13 : g13 < g14 ∧ g13 < g15 ∧ g12 < g14 ∧ g12 < g15 ∧ w.heap.size ≤ g14 ∧ w.heap.size ≤ g15 := by
    have := lt_of_block R13.out
    have := lt_of_block R12.out
    have := hA.out.size
    omega
  obtain ⟨-, q0, q1, q2⟩ := rowfacts r13
  obtain ⟨-, o0, o1, o2⟩ := rowfacts r12
  have R13' := hid r13
  have R14 := hid r14
  have R15 := hid r15
  have PR : Hid (∀ v, pl q v = r → Sm v → ∀ u, Calls Tryd.prog 42 #[.agg #[.int .i64 q.1, .int .i64 q.2.1, .int .i64 q.2.2], .agg #[.int .i64 v.1, .int .i64 v.2.1, .int .i64 v.2.2]] u fun e w' => e = .returned (.agg #[.int .i64 r.1, .int .i64 r.2.1, .int .i64 r.2.2]) ∧ Below u.heap.size u w') := fun v hv sv u => by
    rw [← hv]; exact plus_at q v u sq sv
  have UN : Hid (∀ u, Ab w u → Calls Tryd.prog 45 #[.int .i64 n, .agg #[.int .i64 r.1, .int .i64 r.2.1, .int .i64 r.2.2]] u fun e w' => e = .returned (.tuple #[.int .i64 f2, .int .i64 i2, .int .i64 j2]) ∧ Below u.heap.size u w') := fun u hu => under_at n f2 i2 j2 r u hn hf2 hi2 hj2 hr (HH.out.to hu)
  have CE := hid (fun u => cell_at n f2 i2 j2 u)
  have SD : Hid (∀ u, Ab w u → Calls Tryd.prog 46 #[.int .i64 f2, .agg #[.int .i64 bk.1, .int .i64 bk.2.1, .int .i64 bk.2.2]] u fun e w' => e = .returned (.int .i64 s2) ∧ Below u.heap.size u w') := fun u hu => sideOf_at f2 s2 bk u hf2 hs2 hb (HH.out.to hu)
  have T8 := hid (fun u => times_at (cC f) (-1) u (sc_sm (un_C hf) (by omega)))
  have SF := hid (sc_sm (k := -1) (un_C hf) (by omega))
  have SW := hid (un_wy (s := s) hf).sm
  have hf' : (f : Int) < 6 := by omega
  have H15 := hid h15
  have HNE := hid hne
  have N13 := hid n13
  clear r12 r13 r14 r15 n13 h14 h15 hne TM KS AW R12 R13 hA A6
  rcases hw with ⟨w1, w2, w3⟩ | ⟨w1, w2, w3⟩
  · have PR' := hid (PR.out _ w2 SW.out)
    rw [w3] at R15
    clear w2 w3 PR T8 SF SW hq
    go_upto_region 9 with (go_at_call 44; refine (AL.out _).mono ?_; rintro e w7 ⟨rfl, b7⟩)
    obtain ⟨-, t0, t1, t2⟩ := rowfacts (Ab.heap b7 R13'.out)
    obtain ⟨-, t3, t4, t5⟩ := rowfacts (Ab.heap b7 R14.out)
    have A9 := hid (A7.out.call b7)
    have R15' := hid (Ab.heap b7 R15.out)
    go_wp2_with (first
      | (go_at_call 42; refine (PR'.out _).mono ?_; rintro e w8 ⟨rfl, b8⟩)
      | (go_at_call 45; refine (UN.out _ (A9.out.call b8)).mono ?_; rintro e w9 ⟨rfl, b9⟩))
    have B15 := Ab.heap b9 (Ab.heap b8 R15'.out)
    have A10 := hid ((A9.out.call b8).call b9)
    obtain ⟨U, F, hF1, hF2⟩ := cls w9
    have HF := hid hF2
    have HF1 := hid hF1
    have x0 : ∀ u, (F u).cell? ⟨g15, 0, none⟩ = some (.int .i64 bk.1) := fun u => cell_of_row _ _ 0 _ _ _ ((hF1 u).heap B15)
    have x1 : ∀ u, (F u).cell? ⟨g15, 1, none⟩ = some (.int .i64 bk.2.1) := fun u => cell_of_row _ _ 1 _ _ _ ((hF1 u).heap B15)
    have x2 : ∀ u, (F u).cell? ⟨g15, 2, none⟩ = some (.int .i64 bk.2.2) := fun u => cell_of_row _ _ 2 _ _ _ ((hF1 u).heap B15)
    have SD' := hid (fun u => SD.out (F u) (A10.out.trans (hF1 u)))
    have D := HF.out _ (Ab.refl w9).drew
    clear hF1 hF2 B15 b8 b9 UN SD PR'
    refine region_cls F (by kernel_rfl) (by kernel_rfl) D ?_
    repeat (go_big_quiet_step (first | rfl | (go_at_call 27; exact (CE.out _).mono (fun _ _ ⟨he, hw⟩ => ⟨he, _, hw⟩)) | (go_at_call 46; exact calls_cls HF HF1 (SD'.out _))))
    refine wpQuiet_nil ?_
    intro wz hwz
    obtain ⟨u, rfl⟩ := hwz
    go_wp2
    go_ret2
    exact ⟨rfl, A10.out.trans (HF1.out u)⟩
  · have PR' := hid (PR.out _ w2 SF.out)
    have W3 := hid w3
    clear w2 w3 PR SW hq
    have hf0 : (0 : Int) ≤ (f : Int) := by omega
    have FRW := hid (fun u (hu : Ab w u) => (HH.out.to hu).2 f hf)
    go_upto_region 8 with (go_at_call 44; refine (AL.out _).mono ?_; rintro e w7 ⟨rfl, b7⟩)
    have A8 := A7.out.call b7
    have ne : ¬ g14 = g15 := HNE.out
    have ne' : ¬ g15 = g14 := fun e => HNE.out e.symm
    have nz : ¬ g14 = 0 := by have := N13.out; omega
    have nz' : ¬ g15 = 0 := by have := N13.out; omega
    have nz2 : ¬ 0 = g14 := by have := N13.out; omega
    have nz3 : ¬ 0 = g15 := by have := N13.out; omega
    have nn := N13.out
    have hz : 0 < w.heap.size := HH.out.1
    have KS : Hid (∀ w', Ay w7 g14 g15 w' → Ay w7 g14 g15 w' ∧ w'.cell? ⟨0, f * 9, none⟩ = some (.int .i64 (cC f).1) ∧ w'.cell? ⟨0, f * 9 + 1, none⟩ = some (.int .i64 (cC f).2.1) ∧ w'.cell? ⟨0, f * 9 + 2, none⟩ = some (.int .i64 (cC f).2.2)) := fun w' hw => by
      obtain ⟨⟨k0, k1, k2⟩, _, _⟩ := FRW.out w' (hw.ab A8 nn.2.2.2.2.1 nn.2.2.2.2.2)
      exact ⟨hw, k0, k1, k2⟩
    have Y0 : Ay w7 g14 g15 w7 := (Ab.refl w7).y (Ab.heap b7 R14.out) (Ab.heap b7 R15.out)
    have R13'' := hid (Ab.heap b7 R13'.out)
    have A8' := hid A8
    have B7 := hid b7
    clear A8 nn b7 R13' R14 R15 A7
    go_cut [8] from 52 to 60 (fun s8 wx => s8 = .int .i64 f ∧ Ay w7 g14 g15 wx ∧ wx.heap[g14]? = some (.cells #[.int .i64 (sc (-1) (cC f)).1, .int .i64 (sc (-1) (cC f)).2.1, .int .i64 (sc (-1) (cC f)).2.2] 67) ∧ wx.heap[g15]? = some (.cells #[.int .i64 (cC f).1, .int .i64 (cC f).2.1, .int .i64 (cC f).2.2] 67))
    case first =>
      go_region_held3 (fun w' => Ay w7 g14 g15 w' ∧ w'.cell? ⟨0, f * 9, none⟩ = some (.int .i64 (cC f).1) ∧ w'.cell? ⟨0, f * 9 + 1, none⟩ = some (.int .i64 (cC f).2.1) ∧ w'.cell? ⟨0, f * 9 + 2, none⟩ = some (.int .i64 (cC f).2.2)) ((refine KS.out _ ?_; (with_reducible (repeat (first | assumption | apply Ay.drew | (refine Ay.setg ?_ ne _ _) | (refine Ay.seth ?_ ne _ _) | (refine Ay.call ?_ (by assumption))))); done)) (first
        | (go_at_call 43; refine (T8.out _).mono ?_; rintro e w2 ⟨rfl, b2⟩; have y2 := Y0.drew.call b2; have y3 := y2.factsg; have y4 := y2.swap.factsg; obtain ⟨⟨_, _, _⟩, _, _, _⟩ := y3; obtain ⟨⟨_, _, _⟩, _, _, _⟩ := y4))
      have Y2 := Y0.drew.call b2
      obtain ⟨-, ⟨a1, a2, a3, hg⟩, ⟨c1, c2, c3, hh⟩⟩ := id Y2
      clear Y0 KS
      go_wp2_with fail
      go_meet
      refine ⟨rfl, (((((Y2.setg ne _ _).setg ne _ _).setg ne _ _).seth ne _ _).seth ne _ _).seth ne _ _, ?_, ?_⟩
      · exact (Below.heap_setCell _ _ _ _ ne).trans ((Below.heap_setCell _ _ _ _ ne).trans ((Below.heap_setCell _ _ _ _ ne).trans (row3 hg)))
      · exact row3 ((Below.heap_setCell _ _ _ _ ne').trans ((Below.heap_setCell _ _ _ _ ne').trans ((Below.heap_setCell _ _ _ _ ne').trans hh)))
    case rest =>
      obtain ⟨rfl, YB, z14, z15⟩ := hcut
      rw [W3.out] at z15
      have nn : g13 ≠ g14 ∧ g13 ≠ g15 ∧ w.heap.size ≤ g14 ∧ w.heap.size ≤ g15 := by have := N13.out; omega
      clear KS Y0
      obtain ⟨-, t0, t1, t2⟩ := rowfacts (YB.heap nn.1 nn.2.1 R13''.out)
      obtain ⟨-, t3, t4, t5⟩ := rowfacts z14
      have A9 := hid (YB.ab A8'.out nn.2.2.1 nn.2.2.2)
      have R15' := hid z15
      go_wp2_with (first
        | (go_at_call 42; refine (PR'.out _).mono ?_; rintro e w8 ⟨rfl, b8⟩)
        | (go_at_call 45; refine (UN.out _ (A9.out.call b8)).mono ?_; rintro e w9 ⟨rfl, b9⟩))
      have B15 := Ab.heap b9 (Ab.heap b8 R15'.out)
      have A10 := hid ((A9.out.call b8).call b9)
      obtain ⟨U, F, hF1, hF2⟩ := cls w9
      have HF := hid hF2
      have HF1 := hid hF1
      have x0 : ∀ u, (F u).cell? ⟨g15, 0, none⟩ = some (.int .i64 bk.1) := fun u => cell_of_row _ _ 0 _ _ _ ((hF1 u).heap B15)
      have x1 : ∀ u, (F u).cell? ⟨g15, 1, none⟩ = some (.int .i64 bk.2.1) := fun u => cell_of_row _ _ 1 _ _ _ ((hF1 u).heap B15)
      have x2 : ∀ u, (F u).cell? ⟨g15, 2, none⟩ = some (.int .i64 bk.2.2) := fun u => cell_of_row _ _ 2 _ _ _ ((hF1 u).heap B15)
      have SD' := hid (fun u => SD.out (F u) (A10.out.trans (hF1 u)))
      have D := HF.out _ (Ab.refl w9).drew
      clear hF1 hF2 B15 b8 b9 UN SD PR'
      refine region_cls F (by kernel_rfl) (by kernel_rfl) D ?_
      repeat (go_big_quiet_step (first | rfl | (go_at_call 27; exact (CE.out _).mono (fun _ _ ⟨he, hw⟩ => ⟨he, _, hw⟩)) | (go_at_call 46; exact calls_cls HF HF1 (SD'.out _))))
      refine wpQuiet_nil ?_
      intro wz hwz
      obtain ⟨u, rfl⟩ := hwz
      go_wp2
      go_ret2
      exact ⟨rfl, A10.out.trans (HF1.out u)⟩
end Go.Proofs.YtebnjbljabjgaaaDoor

namespace Go.Proofs.YtebnjbljabjgaaaDoor
open Go.RowKit Cu
theorem clN_nat {n : Nat} (hn : 1 ≤ n ∧ n ≤ 32) : clN n = (6 * n * n : Nat) := by
  unfold clN
  rw [if_pos (by omega)]
  simp
theorem place_ok (n c : Nat) (hn : 1 ≤ n ∧ n ≤ 32) (hc : c < 6 * n * n) (w : World) :
    Calls Tryd.prog 24 #[.int .i64 n, .int .i64 c] w fun e w' => e = .returned (.tuple #[.int .i64 (cf n c), .int .i64 (ci n c), .int .i64 (cj n c), .bool true]) ∧ ∃ k, w' = w.drewN k := by
  have h := place_at n c w
  have hin : inR c (clN n) = true := by rw [inR_iff, clN_nat hn]; omega
  rw [hin, show pF n c = (cf n c : Nat) by simp [pF, hin, cf], show pI n c = (ci n c : Nat) by simp [pI, hin, ci], show pJ n c = (cj n c : Nat) by simp [pJ, hin, cj]] at h
  exact h
theorem cN_nat {n f i j : Nat} (hn : 1 ≤ n ∧ n ≤ 32) (hf : f < 6) (hi : i < n) (hj : j < n) : cN n f i j = (nm n f i j : Nat) := by
  unfold cN
  rw [if_pos ⟨by omega, by rw [inR_iff]; omega, by rw [inR_iff]; omega, by rw [inR_iff]; omega⟩]
  simp [nm]
theorem sm_100 {p : P3} (h : (-100 ≤ p.1 ∧ p.1 ≤ 100) ∧ (-100 ≤ p.2.1 ∧ p.2.1 ≤ 100) ∧ (-100 ≤ p.2.2 ∧ p.2.2 ≤ 100)) : Sm p := by unfold Sm; omega
theorem sm_pl {p q : P3} (h : (-100 ≤ p.1 ∧ p.1 ≤ 100) ∧ (-100 ≤ p.2.1 ∧ p.2.1 ≤ 100) ∧ (-100 ≤ p.2.2 ∧ p.2.2 ≤ 100)) (k : Un q) : Sm (pl p q) := by unfold Un at k; simp only [Sm, pl]; omega
/-- BESIDE, where there is such a cell and side -/
theorem beside_at (n c s : Nat) (w : World) (hn : 1 ≤ n ∧ n ≤ 32) (hc : c < 6 * n * n) (hs : s < 4) (h : Fr w) :
    Calls Tryd.prog 23 #[.int .i64 n, .int .i64 c, .int .i64 s] w fun e w' => e = .returned (.tuple #[.int .i64 (bsC n c s), .int .i64 (bsS n c s)]) ∧ Below w.heap.size w w' := by
  obtain ⟨h1, h2, h3, h4⟩ := dec_lt hn.1 hc
  have hm := md_le h1 h2 h3 hn.2
  have he := at_ah (s := s) hs h2 h3
  have hl := ah_lt (s := s) h2 h3
  have hms : md n (cf n c) (ci n c) (cj n c) = ms n (cf n c) s (ah n s (ci n c) (cj n c)) (lf n s (ci n c) (cj n c)) := by
    have := md_ms (f := cf n c) h1 hs hl.1 hl.2
    rwa [he.1, he.2] at this
  obtain ⟨d1, d2⟩ := ms_step (n := n) (a := ah n s (ci n c) (cj n c)) (b := lf n s (ci n c) (cj n c)) h1 hs
  rw [← hms] at d1 d2
  obtain ⟨w1, w2⟩ := wy_back _ h1 s hs
  have PL := hid (place_ok n c hn hc)
  by_cases ha : ah n s (ci n c) (cj n c) + 1 < n
  · have k := at_lt (s := s) ha hl.2
    have hr := md_ms (f := cf n c) h1 hs ha hl.2
    have := beside_go n c (cf n c) (ci n c) (cj n c) s (cf n c) _ _ ((s + 2) % 4) _ _ _ _ _ w hn h1 hs h1 k.1 k.2 (by omega) h2 h3 h PL rfl rfl d1 (sm_100 hm) (sm_pl hm (un_wy h1)) hr rfl
      (Or.inl ⟨by omega, d2, w1⟩)
    rw [cN_nat hn h1 k.1 k.2] at this
    unfold bsC bsS
    rw [if_pos ha, if_pos ha]
    exact this
  · obtain ⟨n1, n2⟩ := nf_lt _ h1 s hs
    have h0 : 0 < n := by omega
    have k := at_lt (s := ns (cf n c) s) h0 hl.2
    have hr := md_ms n1 n2 h0 hl.2
    have hedge := ms_edge (n := n) (a := ah n s (ci n c) (cj n c)) (b := lf n s (ci n c) (cj n c)) h1 hs (by omega)
    rw [← hms] at hedge
    have := beside_go n c (cf n c) (ci n c) (cj n c) s (nf (cf n c) s) _ _ ((ns (cf n c) s + 2) % 4) _ _ _ _ _ w hn h1 hs n1 k.1 k.2 (by omega) h2 h3 h PL rfl rfl d1 (sm_100 hm) (sm_pl hm (un_wy h1)) hr rfl
      (Or.inr ⟨by omega, hedge, w2⟩)
    rw [cN_nat hn n1 k.1 k.2] at this
    unfold bsC bsS
    rw [if_neg ha, if_neg ha]
    exact this
end Go.Proofs.YtebnjbljabjgaaaDoor

namespace Go.Proofs.YtebnjbljabjgaaaDoor
open Go.RowKit Tf Cu
attribute [local go_sem] run_bits run_from raw_feq raw_fne raw_flt raw_fgt run_neg run_store_float
theorem res_two {P : Program} {fn : Func} {p q : Tmp} {ty : TypeId} (h : fn.results = #[.cell p ty, .tmp q]) (tmps : Array Value) (w : World) (g : Nat) (t : TypeId) (cs : Array Value) (fr : Nat × Nat) (d : TypeDesc) (v : Value)
    (hp : tmps.getD p undef = .pointer (some ⟨g, 0, none⟩)) (hq : tmps.getD q undef = v) (hg : w.heap[g]? = some (.cells cs t fr))
    (hu : P.underlying ty = some d) (hd : (match d with | .struct _ | .array _ _ => true | _ => false) = true) (hi : (P.info? ty).map (·.size) = some cs.size) :
    (results fn tmps).run P w = .ok (.tuple #[.agg cs, v]) w := by
  have hp' : tmps[p]?.getD undef = .pointer (some ⟨g, 0, none⟩) := by simpa using hp
  have hq' : tmps[q]?.getD undef = v := by simpa using hq
  simp [results, h, hp', hq', asAddr, run_loadVar_row w g t ty cs fr d hg hu hd hi]
set_option maxHeartbeats 2000000 in
theorem part_at (k n : Int) (w : World) :
    Calls Tryd.prog 26 #[.int .i64 k, .int .i64 n] w fun e w' => ∃ r m, e = .returned (.float .f64 r) ∧ w' = w.drewN m ∧ Hid (IsC r (dvB (fB k) (fB n))) := by
  have F : Hid (∀ (k : Int) w, Calls Tryd.prog 49 #[.int .i64 k] w fun e w' => e = .returned (.float .f64 (fB k)) ∧ w' = w) := fun k w => fromInt_any k w
  obtain ⟨r, m, hr, hc⟩ := div_any (P := Tryd.prog) w (fB k) (fB n)
  have HC := hid hc
  generalize dvB (fB k) (fB n) = d at *
  clear hc
  go_enter Tryd.func26, Tryd.ntmps26
  go_wp2_with (first
    | (go_at_call 49; refine (F.out _ _).mono ?_; rintro e w' ⟨rfl, rfl⟩))
  go_ret
  exact ⟨r, m, rfl, rfl, HC⟩
set_option maxHeartbeats 1000000 in
theorem upTo_at (k n : Int) (w : World) :
    Calls Tryd.prog 28 #[.int .i64 k, .int .i64 n] w fun e w' => e = .returned (.bool (decide (0 ≤ k) && decide (k ≤ n))) ∧ w' = w := by
  by_cases h1 : 0 ≤ k
  · by_cases h2 : k ≤ n
    · rw [decide_eq_true h1, decide_eq_true h2]
      go_enter Tryd.func28, Tryd.ntmps28
      go_wp2
      go_ret
      exact ⟨rfl, rfl⟩
    · rw [decide_eq_true h1, decide_eq_false h2]
      go_enter Tryd.func28, Tryd.ntmps28
      go_wp2
      go_ret
      exact ⟨rfl, rfl⟩
  · rw [decide_eq_false h1, Bool.false_and]
    go_enter Tryd.func28, Tryd.ntmps28
    go_wp2
    go_ret
    exact ⟨rfl, rfl⟩
/-- the point of the cube -/
def oc (f p q : Nat) : Nat × Nat × Nat := match f with
  | 0 => (4607182418800017408, p, q) | 1 => (negB p, 4607182418800017408, q) | 2 => (13830554455654793216, negB p, q) | 3 => (p, 13830554455654793216, q) | 4 => (negB q, p, 4607182418800017408) | _ => (q, p, 13830554455654793216)
theorem oc_lt {f p q : Nat} (hp : p < 18446744073709551616) (hq : q < 18446744073709551616) : (oc f p q).1 < 18446744073709551616 ∧ (oc f p q).2.1 < 18446744073709551616 ∧ (oc f p q).2.2 < 18446744073709551616 := by
  have a := negB_lt' hp
  have b := negB_lt' hq
  unfold oc
  split <;> refine ⟨?_, ?_, ?_⟩ <;> dsimp only <;> first | assumption | omega
/-- a point of a face at p, q -/
def fp (n f : Nat) (k h : Int) : P3 := pl (sc n (cC f)) (pl (sc k (cR f)) (sc h (cU f)))
theorem cn_of {p d : Nat} (hp : IsC p d) : canonB (negB p) = cn d := by
  have h := cn_canon hp.1
  rw [hp.2] at h
  exact h.symm
theorem oc_fp {n f p q : Nat} {k h : Int} (n1 : 1 ≤ n) (n2 : n ≤ 32) (hf : f < 6) (hp : IsC p (qo n k)) (hq : IsC q (qo n h)) :
    canonB (oc f p q).1 = qo n (fp n f k h).1 ∧ canonB (oc f p q).2.1 = qo n (fp n f k h).2.1 ∧ canonB (oc f p q).2.2 = qo n (fp n f k h).2.2 := by
  have e1 : canonB 4607182418800017408 = qo n n := by rw [qo_one n (by omega) n1]; decide
  have e2 : canonB 13830554455654793216 = qo n (-n) := by rw [qo_neg n1 n2, qo_one n (by omega) n1]; decide
  have e3 : canonB (negB p) = qo n (-k) := by rw [qo_neg n1 n2]; exact cn_of hp
  have e4 : canonB (negB q) = qo n (-h) := by rw [qo_neg n1 n2]; exact cn_of hq
  have e5 := hp.2
  have e6 := hq.2
  rcases six hf with rfl | rfl | rfl | rfl | rfl | rfl <;> simp only [oc, fp, pl, sc, cC, cR, cU, e1, e2, e3, e4, e5, e6] <;> refine ⟨?_, ?_, ?_⟩ <;> congr 1 <;> omega
set_option maxHeartbeats 4000000 in
theorem onCube_at (f p q : Nat) (w : World) (hf : f < 6) (hp : p < 18446744073709551616) (hq : q < 18446744073709551616) :
    Calls Tryd.prog 47 #[.int .i64 f, .float .f64 p, .float .f64 q] w fun e w' => e = .returned (.agg #[.float .f64 (oc f p q).1, .float .f64 (oc f p q).2.1, .float .f64 (oc f p q).2.2]) ∧ Below w.heap.size w w' := by
  have n0 := negFloat_eq p hp
  have n1 := negFloat_eq q hq
  clear hp hq
  rcases six hf with rfl | rfl | rfl | rfl | rfl | rfl
  all_goals
    go_enter Tryd.func47, Tryd.ntmps47
    go_wp2
    refine bodyPost_ret ?_ rfl ⟨rfl, ?_⟩
    · exact results_cell_row Tryd.results47 _ _ w.heap.size _ _ (0, 0) _ rfl (heap_alloc_new w _) Tryd.underlying30 rfl (by kernel_rfl)
    · exact bl1 w _
set_option maxHeartbeats 8000000 in
theorem point_at (n f p q : Nat) (k h : Int) (w : World) (n1 : 1 ≤ n) (n2 : n ≤ 32) (hf : f < 6) (hp : IsC p (qo n k)) (hq : IsC q (qo n h)) :
    Calls Tryd.prog 25 #[.int .i64 f, .float .f64 p, .float .f64 q] w fun e w' => e = .returned (.agg #[.float .f64 (px n (fp n f k h)), .float .f64 (py n (fp n f k h)), .float .f64 (pz n (fp n f k h))]) ∧ Below w.heap.size w w' := by
  obtain ⟨c1, c2, c3⟩ := oc_fp n1 n2 hf hp hq
  obtain ⟨l1, l2, l3⟩ := oc_lt (f := f) hp.1 hq.1
  have OC := hid (fun w => onCube_at f p q w hf hp.1 hq.1)
  have UN := hid (fun w => unit_at _ _ _ w (qo_lt n (fp n f k h).1) (qo_lt n (fp n f k h).2.1) (qo_lt n (fp n f k h).2.2))
  have T0 := hid (fun u0 => canon_any _ u0 l1)
  have T1 := hid (fun u0 => canon_any _ u0 l2)
  have T2 := hid (fun u0 => canon_any _ u0 l3)
  rw [c1] at T0
  rw [c2] at T1
  rw [c3] at T2
  have hux : unB (lnB (qo n (fp n f k h).1) (qo n (fp n f k h).2.1) (qo n (fp n f k h).2.2)) (qo n (fp n f k h).1) = px n (fp n f k h) := rfl
  have huy : unB (lnB (qo n (fp n f k h).1) (qo n (fp n f k h).2.1) (qo n (fp n f k h).2.2)) (qo n (fp n f k h).2.1) = py n (fp n f k h) := rfl
  have huz : unB (lnB (qo n (fp n f k h).1) (qo n (fp n f k h).2.1) (qo n (fp n f k h).2.2)) (qo n (fp n f k h).2.2) = pz n (fp n f k h) := rfl
  rw [hux, huy, huz] at UN
  clear hux huy huz c1 c2 c3 l1 l2 l3 hp hq n1 n2 hf
  generalize px n (fp n f k h) = a at *
  generalize py n (fp n f k h) = b at *
  generalize pz n (fp n f k h) = c at *
  generalize qo n (fp n f k h).1 = d0 at *
  generalize qo n (fp n f k h).2.1 = d1 at *
  generalize qo n (fp n f k h).2.2 = d2 at *
  generalize (oc f p q).1 = x at *
  generalize (oc f p q).2.1 = y at *
  generalize (oc f p q).2.2 = z at *
  have A0 := hid (bl1 w (.cells #[.float .f64 0, .float .f64 0, .float .f64 0] 30))
  have R0 := hid (heap_alloc_new w (.cells #[.float .f64 0, .float .f64 0, .float .f64 0] 30))
  go_enter Tryd.func25, Tryd.ntmps25
  go_wp2_with fail
  refine (OC.out _).mono ?_
  rintro e v ⟨rfl, b1⟩
  have A1 : Hid (Ab w v) := Ab.call A0.out b1
  have R1 : Hid (v.heap[w.heap.size]? = some (.cells #[.float .f64 0, .float .f64 0, .float .f64 0] 30)) := Ab.heap b1 R0.out
  have hlt : w.heap.size < v.heap.size := by have := b1.size; simp at this; omega
  clear b1 A0 R0 OC
  go_upto_region 2 with fail
  generalize hW : World.alloc _ _ = W
  have AW : Hid (Ab w W) := by rw [← hW]; exact A1.out.call (bl1 _ _)
  have ra : W.heap[v.heap.size]? = some (.cells #[.float .f64 x, .float .f64 y, .float .f64 z] 30) := by rw [← hW]; exact heap_alloc_new _ _
  have rc : W.heap[w.heap.size]? = some (.cells #[.float .f64 0, .float .f64 0, .float .f64 0] 30) := by rw [← hW, Below.heap_alloc _ _ _ hlt]; exact R1.out
  have KS : Hid (∀ w', Abx W w.heap.size 3 30 w' → Abx W w.heap.size 3 30 w' ∧ w'.cell? ⟨v.heap.size, 0, none⟩ = some (.float .f64 x) ∧ w'.cell? ⟨v.heap.size, 1, none⟩ = some (.float .f64 y) ∧ w'.cell? ⟨v.heap.size, 2, none⟩ = some (.float .f64 z) ∧ w'.frozen? ⟨w.heap.size, 0, none⟩ = false ∧ w'.frozen? ⟨w.heap.size, 1, none⟩ = false ∧ w'.frozen? ⟨w.heap.size, 2, none⟩ = false ∧ w'.cell? ⟨w.heap.size, 0, none⟩ = some (rv w' (w.heap.size) 0) ∧ w'.cell? ⟨w.heap.size, 1, none⟩ = some (rv w' (w.heap.size) 1) ∧ w'.cell? ⟨w.heap.size, 2, none⟩ = some (rv w' (w.heap.size) 2)) := by
    intro w' hw
    obtain ⟨-, p3, p4, p5⟩ := rowfacts (hw.heap (by omega) ra)
    exact ⟨hw, p3, p4, p5, hw.free 0, hw.free 1, hw.free 2, hw.some (by omega), hw.some (by omega), hw.some (by omega)⟩
  have A3 : Abx W w.heap.size 3 30 W := (Ab.refl W).x rfl rc
  clear ra rc hW A1 R1
  go_region_held3 (fun w' => Abx W w.heap.size 3 30 w' ∧ w'.cell? ⟨v.heap.size, 0, none⟩ = some (.float .f64 x) ∧ w'.cell? ⟨v.heap.size, 1, none⟩ = some (.float .f64 y) ∧ w'.cell? ⟨v.heap.size, 2, none⟩ = some (.float .f64 z) ∧ w'.frozen? ⟨w.heap.size, 0, none⟩ = false ∧ w'.frozen? ⟨w.heap.size, 1, none⟩ = false ∧ w'.frozen? ⟨w.heap.size, 2, none⟩ = false ∧ w'.cell? ⟨w.heap.size, 0, none⟩ = some (rv w' (w.heap.size) 0) ∧ w'.cell? ⟨w.heap.size, 1, none⟩ = some (rv w' (w.heap.size) 1) ∧ w'.cell? ⟨w.heap.size, 2, none⟩ = some (rv w' (w.heap.size) 2)) ((refine KS.out _ ?_; (with_reducible (repeat (first | assumption | apply Abx.drew | apply Abx.drewN | apply Abx.set | (refine Abx.call ?_ (by assumption))))); done)) (first
    | (go_at_call_of 31 x; refine (T0.out _).mono ?_; rintro e w1 ⟨rfl, rfl⟩)
    | (go_at_call_of 31 y; refine (T1.out _).mono ?_; rintro e w2 ⟨rfl, rfl⟩)
    | (go_at_call_of 31 z; refine (T2.out _).mono ?_; rintro e w3 ⟨rfl, rfl⟩)
    | (go_at_call 48; refine (UN.out _).mono ?_; rintro e w4 ⟨rfl, b4⟩))
  have A2 : Abx W w.heap.size 3 30 w4 := Abx.call (A3.drew) b4
  clear KS A3 b4
  go_wp2
  refine bodyPost_ret ?_ rfl ⟨rfl, ?_⟩
  · exact results_cell_row Tryd.results25 _ _ (w.heap.size) _ _ (0, 0) _ rfl (set3 A2) Tryd.underlying30 rfl (by kernel_rfl)
  · exact (((A2.set 0 _).set 1 _).set 2 _).ab AW.out (by omega)
set_option maxHeartbeats 4000000 in
theorem corner_ok (n f i j : Nat) (w : World) (hn : 1 ≤ n ∧ n ≤ 32) (hf : f < 6) (hi : i ≤ n) (hj : j ≤ n) :
    Calls Tryd.prog 14 #[.int .i64 n, .int .i64 f, .int .i64 i, .int .i64 j] w fun e w' => e = .returned (.tuple #[.agg #[.float .f64 (px n (cr n f i j)), .float .f64 (py n (cr n f i j)), .float .f64 (pz n (cr n f i j))], .bool true]) ∧ Below w.heap.size w w' := by
  have CE : Hid (∀ u, Calls Tryd.prog 27 #[.int .i64 n, .int .i64 f, .int .i64 0, .int .i64 0] u fun e w' => e = .returned (.int .i64 (nm n f 0 0 : Nat)) ∧ w' = u) := fun u => by
    have h := cell_at n f 0 0 u
    rw [show (0 : Int) = ((0 : Nat) : Int) from rfl, cN_nat hn hf (by omega) (by omega)] at h
    exact h
  have U1 : Hid (∀ u, Calls Tryd.prog 28 #[.int .i64 i, .int .i64 n] u fun e w' => e = .returned (.bool true) ∧ w' = u) := fun u => by
    have h := upTo_at i n u
    rw [decide_eq_true (show (0 : Int) ≤ i by omega), decide_eq_true (show (i : Int) ≤ n by omega)] at h
    exact h
  have U2 : Hid (∀ u, Calls Tryd.prog 28 #[.int .i64 j, .int .i64 n] u fun e w' => e = .returned (.bool true) ∧ w' = u) := fun u => by
    have h := upTo_at j n u
    rw [decide_eq_true (show (0 : Int) ≤ j by omega), decide_eq_true (show (j : Int) ≤ n by omega)] at h
    exact h
  have PA : Hid (∀ (k : Int) u, Calls Tryd.prog 26 #[.int .i64 k, .int .i64 n] u fun e w' => ∃ r m, e = .returned (.float .f64 r) ∧ w' = u.drewN m ∧ Hid (IsC r (qo n k))) := fun k u => part_at k n u
  have PO : Hid (∀ p q u, Hid (IsC p (qo n (2 * i - n))) → Hid (IsC q (qo n (2 * j - n))) → Calls Tryd.prog 25 #[.int .i64 f, .float .f64 p, .float .f64 q] u fun e w' => e = .returned (.agg #[.float .f64 (px n (cr n f i j)), .float .f64 (py n (cr n f i j)), .float .f64 (pz n (cr n f i j))]) ∧ Below u.heap.size u w') := fun p q u hp hq => point_at n f p q _ _ u hn.1 hn.2 hf hp hq
  generalize px n (cr n f i j) = a at *
  generalize py n (cr n f i j) = b at *
  generalize pz n (cr n f i j) = c at *
  have A0 := hid (bl1 w (.cells #[.float .f64 0, .float .f64 0, .float .f64 0] 30))
  have R0 := hid (heap_alloc_new w (.cells #[.float .f64 0, .float .f64 0, .float .f64 0] 30))
  have hnm : nm n f 0 0 < 6 * n * n := nm_lt hf (by omega) (by omega)
  have hpos : (0 : Int) ≤ (nm n f 0 0 : Nat) := by omega
  generalize ((nm n f 0 0 : Nat) : Int) = nn at *
  have hi2 : (i : Int) ≤ 32 := by omega
  have hj2 : (j : Int) ≤ 32 := by omega
  have hn2 : (n : Int) ≤ 32 := by omega
  clear hnm hn hf hi hj
  go_enter Tryd.func14, Tryd.ntmps14
  go_wp2_with (first
    | (go_at_call 27; refine (CE.out _).mono ?_; rintro e w' ⟨rfl, rfl⟩)
    | (go_at_call_of 28 (i : Int); refine (U1.out _).mono ?_; rintro e w' ⟨rfl, rfl⟩)
    | (go_at_call_of 28 (j : Int); refine (U2.out _).mono ?_; rintro e w' ⟨rfl, rfl⟩))
  refine (PA.out _ _).mono ?_
  rintro e w1 ⟨p, m1, rfl, rfl, hp⟩
  go_wp2_with fail
  refine (PA.out _ _).mono ?_
  rintro e w1 ⟨q, m2, rfl, rfl, hq⟩
  go_wp2_with fail
  refine (PO.out _ _ _ hp hq).mono ?_
  rintro e w3 ⟨rfl, b3⟩
  have A3 : Hid (Ab w w3) := Ab.call (Ab.drewN A0.out _) b3
  have r0 : w3.heap[w.heap.size]? = some (.cells #[.float .f64 0, .float .f64 0, .float .f64 0] 30) := Ab.heap b3 R0.out
  obtain ⟨⟨o0, o1, o2⟩, o3, o4, o5⟩ := rowfacts r0
  have R3 := hid r0
  clear r0 b3 A0 R0
  go_wp2
  refine bodyPost_ret ?_ rfl ⟨rfl, ?_⟩
  · exact res_two Tryd.results14 _ _ w.heap.size _ _ (0, 0) _ _ rfl rfl (row3 R3.out) Tryd.underlying30 rfl (by kernel_rfl)
  · exact ((Ab.setk A3.out (by omega) _).setk (by omega) _).setk (by omega) _
set_option maxHeartbeats 4000000 in
theorem corner_no (n f i j : Int) (w : World) (h : ¬ ((1 ≤ n ∧ n ≤ 32) ∧ (0 ≤ f ∧ f < 6) ∧ (0 ≤ i ∧ i ≤ n) ∧ (0 ≤ j ∧ j ≤ n))) :
    Calls Tryd.prog 14 #[.int .i64 n, .int .i64 f, .int .i64 i, .int .i64 j] w fun e w' => e = .returned (.tuple #[.agg #[.float .f64 0, .float .f64 0, .float .f64 0], .bool false]) ∧ Below w.heap.size w w' := by
  have CE := hid (fun u => cell_at n f 0 0 u)
  have hc : (¬ ((1 ≤ n ∧ n ≤ 32) ∧ (0 ≤ f ∧ f < 6)) ∧ cN n f 0 0 = -1) ∨ (((1 ≤ n ∧ n ≤ 32) ∧ (0 ≤ f ∧ f < 6)) ∧ 0 ≤ cN n f 0 0) := by
    by_cases k : (1 ≤ n ∧ n ≤ 32) ∧ (0 ≤ f ∧ f < 6)
    · refine .inr ⟨k, ?_⟩
      unfold cN
      split
      · have := (cN_le (j := 0) k.1.1 k.1.2 k.2.1 k.2.2 (by omega) (by omega)).2.1; omega
      · rename_i c
        exact absurd ⟨k.1, by rw [inR_iff]; omega, by rw [inR_iff]; omega, by rw [inR_iff]; omega⟩ c
    · refine .inl ⟨k, ?_⟩
      unfold cN
      rw [if_neg]
      rintro ⟨c1, c2, -, -⟩
      rw [inR_iff] at c2
      exact k ⟨c1, c2⟩
  generalize cN n f 0 0 = nn at *
  have R0 := hid (heap_alloc_new w (.cells #[.float .f64 0, .float .f64 0, .float .f64 0] 30))
  rcases hc with ⟨-, rfl⟩ | ⟨k, hpos⟩
  · clear h
    go_enter Tryd.func14, Tryd.ntmps14
    go_wp2_with (first
      | (go_at_call 27; refine (CE.out _).mono ?_; rintro e w' ⟨rfl, rfl⟩))
    refine bodyPost_ret ?_ rfl ⟨rfl, bl1 w _⟩
    exact res_two Tryd.results14 _ _ w.heap.size _ _ (0, 0) _ _ rfl rfl (heap_alloc_new w _) Tryd.underlying30 rfl (by kernel_rfl)
  · by_cases ki : 0 ≤ i ∧ i ≤ n
    · have kj : ¬ (0 ≤ j ∧ j ≤ n) := fun kj => h ⟨k.1, k.2, ki, kj⟩
      have U1 : Hid (∀ u, Calls Tryd.prog 28 #[.int .i64 i, .int .i64 n] u fun e w' => e = .returned (.bool true) ∧ w' = u) := fun u => by
        have h := upTo_at i n u
        rw [decide_eq_true ki.1, decide_eq_true ki.2] at h
        exact h
      have U2 : Hid (∀ u, Calls Tryd.prog 28 #[.int .i64 j, .int .i64 n] u fun e w' => e = .returned (.bool false) ∧ w' = u) := fun u => by
        have h := upTo_at j n u
        rw [← Bool.decide_and, decide_eq_false kj] at h
        exact h
      have hk1 := hid k
      clear h ki kj k
      go_enter Tryd.func14, Tryd.ntmps14
      go_wp2_with (first
        | (go_at_call 27; refine (CE.out _).mono ?_; rintro e w' ⟨rfl, rfl⟩)
        | (go_at_call_of 28 i; refine (U1.out _).mono ?_; rintro e w' ⟨rfl, rfl⟩)
        | (go_at_call_of 28 j; refine (U2.out _).mono ?_; rintro e w' ⟨rfl, rfl⟩))
      refine bodyPost_ret ?_ rfl ⟨rfl, bl1 w _⟩
      exact res_two Tryd.results14 _ _ w.heap.size _ _ (0, 0) _ _ rfl rfl (heap_alloc_new w _) Tryd.underlying30 rfl (by kernel_rfl)
    · have U1 : Hid (∀ u, Calls Tryd.prog 28 #[.int .i64 i, .int .i64 n] u fun e w' => e = .returned (.bool false) ∧ w' = u) := fun u => by
        have h := upTo_at i n u
        rw [← Bool.decide_and, decide_eq_false ki] at h
        exact h
      clear h ki k
      go_enter Tryd.func14, Tryd.ntmps14
      go_wp2_with (first
        | (go_at_call 27; refine (CE.out _).mono ?_; rintro e w' ⟨rfl, rfl⟩)
        | (go_at_call_of 28 i; refine (U1.out _).mono ?_; rintro e w' ⟨rfl, rfl⟩))
      refine bodyPost_ret ?_ rfl ⟨rfl, bl1 w _⟩
      exact res_two Tryd.results14 _ _ w.heap.size _ _ (0, 0) _ _ rfl rfl (heap_alloc_new w _) Tryd.underlying30 rfl (by kernel_rfl)
set_option maxHeartbeats 4000000 in
theorem middle_ok (n c : Nat) (w : World) (hn : 1 ≤ n ∧ n ≤ 32) (hc : c < 6 * n * n) :
    Calls Tryd.prog 10 #[.int .i64 n, .int .i64 c] w fun e w' => e = .returned (.tuple #[.agg #[.float .f64 (px n (MD n c)), .float .f64 (py n (MD n c)), .float .f64 (pz n (MD n c))], .bool true]) ∧ Below w.heap.size w w' := by
  obtain ⟨h1, h2, h3, -⟩ := dec_lt hn.1 hc
  have PL := hid (fun u => place_ok n c hn hc u)
  have PA : Hid (∀ (k : Int) u, Calls Tryd.prog 26 #[.int .i64 k, .int .i64 n] u fun e w' => ∃ r m, e = .returned (.float .f64 r) ∧ w' = u.drewN m ∧ Hid (IsC r (qo n k))) := fun k u => part_at k n u
  have PO : Hid (∀ p q u, Hid (IsC p (qo n (2 * (ci n c : Nat) + 1 - n))) → Hid (IsC q (qo n (2 * (cj n c : Nat) + 1 - n))) → Calls Tryd.prog 25 #[.int .i64 (cf n c : Nat), .float .f64 p, .float .f64 q] u fun e w' => e = .returned (.agg #[.float .f64 (px n (MD n c)), .float .f64 (py n (MD n c)), .float .f64 (pz n (MD n c))]) ∧ Below u.heap.size u w') := fun p q u hp hq => point_at n _ p q _ _ u hn.1 hn.2 h1 hp hq
  generalize px n (MD n c) = a at *
  generalize py n (MD n c) = b at *
  generalize pz n (MD n c) = d at *
  generalize cf n c = f at *
  have hi : ((ci n c : Nat) : Int) ≤ 32 := by omega
  have hj : ((cj n c : Nat) : Int) ≤ 32 := by omega
  have hn2 : (n : Int) ≤ 32 := by omega
  generalize ci n c = i at *
  generalize cj n c = j at *
  clear hn hc h1 h2 h3
  have A0 := hid (bl1 w (.cells #[.float .f64 0, .float .f64 0, .float .f64 0] 30))
  have R0 := hid (heap_alloc_new w (.cells #[.float .f64 0, .float .f64 0, .float .f64 0] 30))
  go_enter Tryd.func10, Tryd.ntmps10
  go_wp2_with fail
  refine (PL.out _).mono ?_
  rintro e w1 ⟨rfl, m0, rfl⟩
  go_wp2_with fail
  refine (PA.out _ _).mono ?_
  rintro e w1 ⟨p, m1, rfl, rfl, hp⟩
  go_wp2_with fail
  refine (PA.out _ _).mono ?_
  rintro e w1 ⟨q, m2, rfl, rfl, hq⟩
  go_wp2_with fail
  refine (PO.out _ _ _ hp hq).mono ?_
  rintro e w3 ⟨rfl, b3⟩
  have A3 : Hid (Ab w w3) := Ab.call (Ab.drewN A0.out _) b3
  have r0 : w3.heap[w.heap.size]? = some (.cells #[.float .f64 0, .float .f64 0, .float .f64 0] 30) := Ab.heap b3 R0.out
  obtain ⟨⟨o0, o1, o2⟩, o3, o4, o5⟩ := rowfacts r0
  have R3 := hid r0
  clear r0 b3 A0 R0
  go_wp2
  refine bodyPost_ret ?_ rfl ⟨rfl, ?_⟩
  · exact res_two Tryd.results10 _ _ w.heap.size _ _ (0, 0) _ _ rfl rfl (row3 R3.out) Tryd.underlying30 rfl (by kernel_rfl)
  · exact ((Ab.setk A3.out (by omega) _).setk (by omega) _).setk (by omega) _
set_option maxHeartbeats 2000000 in
theorem middle_no (n c : Int) (w : World) (h : inR c (clN n) = false) :
    Calls Tryd.prog 10 #[.int .i64 n, .int .i64 c] w fun e w' => e = .returned (.tuple #[.agg #[.float .f64 0, .float .f64 0, .float .f64 0], .bool false]) ∧ Below w.heap.size w w' := by
  have PL := hid (fun u => place_at n c u)
  rw [h] at PL
  generalize pF n c = f at *
  generalize pI n c = i at *
  generalize pJ n c = j at *
  clear h
  go_enter Tryd.func10, Tryd.ntmps10
  go_wp2_with fail
  refine (PL.out _).mono ?_
  rintro e w1 ⟨rfl, m0, rfl⟩
  have r0 : (World.drewN (w.alloc (.cells #[.float .f64 0, .float .f64 0, .float .f64 0] 30)) m0).heap[w.heap.size]? = some (.cells #[.float .f64 0, .float .f64 0, .float .f64 0] 30) := heap_alloc_new _ _
  obtain ⟨⟨o0, o1, o2⟩, o3, o4, o5⟩ := rowfacts r0
  have R3 := hid r0
  clear r0
  go_wp2
  refine bodyPost_ret ?_ rfl ⟨rfl, ?_⟩
  · exact res_two Tryd.results10 _ _ w.heap.size _ _ (0, 0) _ _ rfl rfl (row3 R3.out) Tryd.underlying30 rfl (by kernel_rfl)
  · exact (((Ab.drewN (bl1 w _) m0).setk (by omega) _).setk (by omega) _).setk (by omega) _
end Go.Proofs.YtebnjbljabjgaaaDoor
