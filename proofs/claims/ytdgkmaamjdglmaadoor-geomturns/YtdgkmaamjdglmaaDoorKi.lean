/-
  What lies beside a cell: contract.
-/
import Derived.Test.YtdgkmaamjdglmaaDoorKh
namespace Go.Proofs.YtdgkmaamjdglmaaDoor
open Go.RowKit Cu
/-- as Ab, but for blocks g and h, which are points -/
def Ay (W : World) (g h : Nat) (w : World) : Prop :=
  (w.os = W.os ∧ w.tape = W.tape ∧ w.output = W.output ∧ W.heap.size ≤ w.heap.size ∧ ∀ k, k < W.heap.size → k ≠ g → k ≠ h → w.heap[k]? = W.heap[k]?) ∧
  (∃ a b c : Value, w.heap[g]? = some (.cells #[a, b, c] 53)) ∧ (∃ a b c : Value, w.heap[h]? = some (.cells #[a, b, c] 53))
theorem Ab.y {W w : World} (h : Ab W w) {g k : Nat} {a b c x y z : Value} (hg : W.heap[g]? = some (.cells #[a, b, c] 53)) (hk : W.heap[k]? = some (.cells #[x, y, z] 53)) : Ay W g k w :=
  ⟨⟨Below.os h, Below.tape h, Below.output h, Below.size h, fun i hi _ _ => Below.block h i hi⟩, ⟨_, _, _, h.heap hg⟩, ⟨_, _, _, h.heap hk⟩⟩
theorem Ay.drew {W w : World} {g h : Nat} (a : Ay W g h w) : Ay W g h w.drew := a
theorem Ay.call {W u w : World} {g h : Nat} (a : Ay W g h u) (b : Below u.heap.size u w) : Ay W g h w := by
  obtain ⟨⟨h1, h2, h3, h4, h5⟩, ⟨x, y, z, hg⟩, ⟨x', y', z', hh⟩⟩ := a
  exact ⟨⟨b.os.trans h1, b.tape.trans h2, b.output.trans h3, Nat.le_trans h4 b.size, fun k hk hne hne2 => (b.block k (by omega)).trans (h5 k hk hne hne2)⟩, ⟨x, y, z, (b.block g (lt_of_block hg)).trans hg⟩, ⟨x', y', z', (b.block h (lt_of_block hh)).trans hh⟩⟩
theorem set_k {a b c v : Value} (k : Nat) : ∃ x y z : Value, #[a, b, c].setIfInBounds k v = #[x, y, z] := by
  rcases k with _ | _ | _ | k
  · exact ⟨v, b, c, rfl⟩
  · exact ⟨a, v, c, rfl⟩
  · exact ⟨a, b, v, rfl⟩
  · exact ⟨a, b, c, by simp [Array.setIfInBounds]⟩
theorem Ay.setg {W w : World} {g h : Nat} (a : Ay W g h w) (hne : g ≠ h) (k : Nat) (v : Value) : Ay W g h (w.setCell ⟨g, k, none⟩ v) := by
  obtain ⟨⟨h1, h2, h3, h4, h5⟩, ⟨x, y, z, hg⟩, ⟨x', y', z', hh⟩⟩ := a
  obtain ⟨p, q, r, e⟩ := set_k (a := x) (b := y) (c := z) (v := v) k
  have o := one_set (k := k) (v := v) hg
  rw [e] at o
  exact ⟨⟨h1, h2, h3, by simpa [World.setCell] using h4, fun i hi n1 n2 => (Below.heap_setCell _ _ _ _ n1).trans (h5 i hi n1 n2)⟩, ⟨p, q, r, o⟩, ⟨x', y', z', (Below.heap_setCell _ _ _ _ (by exact fun e => hne e.symm)).trans hh⟩⟩
theorem Ay.swap {W w : World} {g h : Nat} (a : Ay W g h w) : Ay W h g w :=
  ⟨⟨a.1.1, a.1.2.1, a.1.2.2.1, a.1.2.2.2.1, fun k hk n1 n2 => a.1.2.2.2.2 k hk n2 n1⟩, a.2.2, a.2.1⟩
theorem Ay.seth {W w : World} {g h : Nat} (a : Ay W g h w) (hne : g ≠ h) (k : Nat) (v : Value) : Ay W g h (w.setCell ⟨h, k, none⟩ v) := (a.swap.setg hne.symm k v).swap
theorem Ay.heap {W w : World} {g h k : Nat} {o : Obj} (a : Ay W g h w) (n1 : k ≠ g) (n2 : k ≠ h) (hk : W.heap[k]? = some o) : w.heap[k]? = some o := by
  have hlt : k < W.heap.size := by
    rcases Nat.lt_or_ge k W.heap.size with h1 | h1
    · exact h1
    · rw [Array.getElem?_eq_none h1] at hk; cases hk
  exact (a.1.2.2.2.2 k hlt n1 n2).trans hk
theorem Ay.ab {w0 W w : World} {g h : Nat} (a : Ay W g h w) (b : Ab w0 W) (hg : w0.heap.size ≤ g) (hh : w0.heap.size ≤ h) : Ab w0 w := by
  obtain ⟨⟨h1, h2, h3, h4, h5⟩, _⟩ := a
  exact ⟨h1.trans b.os, h2.trans b.tape, h3.trans b.output, Nat.le_trans (Below.size b) h4, fun k hk => (h5 k (Nat.lt_of_lt_of_le hk (Below.size b)) (by omega) (by omega)).trans (b.block k hk)⟩
theorem Ay.factsg {W w : World} {g h : Nat} (a : Ay W g h w) : (w.frozen? ⟨g, 0, none⟩ = false ∧ w.frozen? ⟨g, 1, none⟩ = false ∧ w.frozen? ⟨g, 2, none⟩ = false) ∧ w.cell? ⟨g, 0, none⟩ = some (rv w g 0) ∧ w.cell? ⟨g, 1, none⟩ = some (rv w g 1) ∧ w.cell? ⟨g, 2, none⟩ = some (rv w g 2) := by
  obtain ⟨_, ⟨x, y, z, hg⟩, _⟩ := a
  have e : ∀ k, w.cell? ⟨g, k, none⟩ = #[x, y, z][k]? := fun k => cell_of_row _ _ k _ _ _ hg
  refine ⟨⟨free_row hg 0, free_row hg 1, free_row hg 2⟩, ?_, ?_, ?_⟩ <;> simp [rv, e]
set_option maxHeartbeats 8000000 in
theorem beside_go (n c f i j s f2 i2 j2 s2 : Nat) (p q r bk : P3) (d : Int) (w : World) (hn : 1 ≤ n ∧ n ≤ 32) (hf : f < 6) (hs : s < 4) (hf2 : f2 < 6) (hi2 : i2 < n) (hj2 : j2 < n) (hs2 : s2 < 4) (hi : i < n) (hj : j < n) (h : Fr w)
    (PL : Hid (∀ w, Calls Tryd.prog 23 #[.int .i64 n, .int .i64 c] w fun e w' => e = .returned (.tuple #[.int .i64 f, .int .i64 i, .int .i64 j, .bool true]) ∧ ∃ k, w' = w.drewN k))
    (hp : md n f i j = p) (hq : pl p (wy f s) = q) (hd : dt q (wy f s) = d) (sp : Sm p) (sq : Sm q)
    (hr : md n f2 i2 j2 = r) (hb : wy f2 s2 = bk) (hw : (¬ d = n ∧ pl q (wy f s) = r ∧ sc (-1) (wy f s) = bk) ∨ (d = n ∧ pl q (sc (-1) (cC f)) = r ∧ cC f = bk)) :
    Calls Tryd.prog 9 #[.int .i64 n, .int .i64 c, .int .i64 s] w fun e w' => e = .returned (.tuple #[.int .i64 (cN n f2 i2 j2), .int .i64 s2]) ∧ Below w.heap.size w w' := by
  have CT : Hid (∀ w, Calls Tryd.prog 24 #[.int .i64 s, .int .i64 4] w fun e w' => e = .returned (.bool true) ∧ w' = w) := fun w => by
    have := counts_at s 4 w
    rwa [show inR s 4 = true by rw [inR_iff]; omega] at this
  have WY := hid (fun (u : World) (hu : Ab w u) => way_at f s u hf hs (h.to hu))
  have MI : Hid (∀ u, Ab w u → Calls Tryd.prog 26 #[.int .i64 n, .int .i64 f, .int .i64 i, .int .i64 j] u fun e w' => e = .returned (.agg #[.int .i64 p.1, .int .i64 p.2.1, .int .i64 p.2.2]) ∧ Below u.heap.size u w') := fun u hu => by
    rw [← hp]; exact middle_at n f i j u (by omega) hf (by omega) (by omega) (h.to hu)
  have PQ : Hid (∀ u, Calls Tryd.prog 27 #[.agg #[.int .i64 p.1, .int .i64 p.2.1, .int .i64 p.2.2], .agg #[.int .i64 (wy f s).1, .int .i64 (wy f s).2.1, .int .i64 (wy f s).2.2]] u fun e w' => e = .returned (.agg #[.int .i64 q.1, .int .i64 q.2.1, .int .i64 q.2.2]) ∧ Below u.heap.size u w') := fun u => by
    rw [← hq]; exact plus_at p (wy f s) u sp (un_wy hf).sm
  have TM := hid (fun u => times_ex (wy f s) (-1) u (sc_sm (un_wy hf) (by omega)))
  have AL : Hid (∀ u, Calls Tryd.prog 29 #[.agg #[.int .i64 q.1, .int .i64 q.2.1, .int .i64 q.2.2], .agg #[.int .i64 (wy f s).1, .int .i64 (wy f s).2.1, .int .i64 (wy f s).2.2]] u fun e w' => e = .returned (.int .i64 d) ∧ Below u.heap.size u w') := fun u => by
    rw [← hd]; exact along_at q (wy f s) u sq (un_wy hf)
  have HH := hid h
  have R0 := hid (Ab.refl w)
  have HP := hid hp
  clear h hp hd sp
  go_enter Tryd.func9, Tryd.ntmps9
  go_upto_region 4 with (first
    | (go_at_call 23; refine (PL.out _).mono ?_; rintro e w' ⟨rfl, k, rfl⟩)
    | (go_at_call 24; refine (CT.out _).mono ?_; rintro e w' ⟨rfl, rfl⟩))
  have A1 : Ab w (w.drewN k) := (Ab.refl w).drewN k
  go_wp2_with fail
  refine (WY.out _ A1).mono ?_
  rintro e w1 ⟨rfl, b1⟩
  have A2 := hid (A1.call b1)
  clear b1 A1 PL CT WY R0
  go_upto_region 5 with fail
  generalize hW : World.alloc w1 _ = W
  obtain ⟨g12, hg12⟩ : ∃ g, w1.heap.size = g := ⟨_, rfl⟩
  have r12 : W.heap[g12]? = some (.cells #[.int .i64 (wy f s).1, .int .i64 (wy f s).2.1, .int .i64 (wy f s).2.2] 53) := by rw [← hW, ← hg12]; exact heap_alloc_new _ _
  have A3 : Ab w W := by rw [← hW]; exact A2.out.alloc _
  rw [hg12]
  clear hW hg12 A2
  have KS : Hid (∀ w', Ab W w' → Ab W w' ∧ w'.cell? ⟨g12, 0, none⟩ = some (.int .i64 (wy f s).1) ∧ w'.cell? ⟨g12, 1, none⟩ = some (.int .i64 (wy f s).2.1) ∧ w'.cell? ⟨g12, 2, none⟩ = some (.int .i64 (wy f s).2.2)) := fun w' hw => ⟨hw, cell_of_row _ _ 0 _ _ _ (hw.heap r12), cell_of_row _ _ 1 _ _ _ (hw.heap r12), cell_of_row _ _ 2 _ _ _ (hw.heap r12)⟩
  have AW := Ab.refl W
  have R12 := hid r12
  have A3' := hid A3
  have MI' : Hid (∀ u, Ab W u → Calls Tryd.prog 26 #[.int .i64 n, .int .i64 f, .int .i64 i, .int .i64 j] u fun e w' => e = .returned (.agg #[.int .i64 p.1, .int .i64 p.2.1, .int .i64 p.2.2]) ∧ Below u.heap.size u w' ∧ Ab W w') := fun u hu => (MI.out u (A3.trans hu)).mono fun _ _ ⟨he, hb⟩ => ⟨he, hb, hu.call hb⟩
  have PQ' : Hid (∀ u, Ab W u → Calls Tryd.prog 27 #[.agg #[.int .i64 p.1, .int .i64 p.2.1, .int .i64 p.2.2], .agg #[.int .i64 (wy f s).1, .int .i64 (wy f s).2.1, .int .i64 (wy f s).2.2]] u fun e w' => e = .returned (.agg #[.int .i64 q.1, .int .i64 q.2.1, .int .i64 q.2.2]) ∧ Below u.heap.size u w' ∧ Ab W w') := fun u hu => (PQ.out u).mono fun _ _ ⟨he, hb⟩ => ⟨he, hb, hu.call hb⟩
  clear r12 A3 MI PQ
  go_cut [13] from 37 to 43 (fun s13 wx => ∃ g13, s13 = .pointer (some ⟨g13, 0, none⟩) ∧ Ab W wx ∧ W.heap.size ≤ g13 ∧ wx.heap[g13]? = some (.cells #[.int .i64 q.1, .int .i64 q.2.1, .int .i64 q.2.2] 53))
  case first =>
    go_region_held3 (fun w' => Ab W w' ∧ w'.cell? ⟨g12, 0, none⟩ = some (.int .i64 (wy f s).1) ∧ w'.cell? ⟨g12, 1, none⟩ = some (.int .i64 (wy f s).2.1) ∧ w'.cell? ⟨g12, 2, none⟩ = some (.int .i64 (wy f s).2.2)) ((refine KS.out _ ?_; (with_reducible (repeat (first | assumption | apply Ab.drew | apply Ab.alloc | (refine Ab.call ?_ (by assumption)) | (refine Ab.setk ?_ (by first | assumption | exact Nat.le_refl _ | omega) _)))); done)) (first
      | (go_at_call 26; refine (MI'.out _ ?_).mono ?_; (exact And.left (by assumption)); rintro e w2 ⟨rfl, b2, a2⟩; have l2 : W.heap.size ≤ w2.heap.size := Nat.le_trans (by first | exact Nat.le_refl _ | (simp; done)) (Below.size b2); (try (have n2 := newrow b2; have n2' := rowfacts n2; obtain ⟨⟨_, _, _⟩, _, _, _⟩ := n2')))
      | (go_at_call 27; refine (PQ'.out _ ?_).mono ?_; (exact And.left (by assumption)); rintro e w3 ⟨rfl, b3, a3⟩; (try (have n3 := Ab.heap b3 n2; have n3' := rowfacts n3; obtain ⟨⟨_, _, _⟩, _, _, _⟩ := n3')); (try (have n4 := newrow' b3; have n4' := rowfacts n4; obtain ⟨⟨_, _, _⟩, _, _, _⟩ := n4'))))
    all_goals go_wp2_with fail
    all_goals go_meet
    all_goals refine ⟨_, rfl, ?_, ?_, ?_⟩
    all_goals first
      | exact heap_alloc_new _ _
      | exact row3 n4
      | exact row3 n3
      | exact a3.size
      | exact l2
      | exact Nat.le_refl _
      | ((with_reducible (repeat (first | assumption | apply Ab.drew | apply Ab.alloc | (refine Ab.setk ?_ (by first | assumption | exact Nat.le_refl _ | omega) _)))); done)
  case rest =>
  obtain ⟨g13, rfl, A4, hg13, r13⟩ := hcut
  have r12 := A4.heap R12.out
  have hA := hid (A3'.out.trans A4)
  clear KS AW R12 A3' MI' PQ' hg13 A4
  have KS : Hid (∀ w', Ab wc w' → Ab wc w' ∧ w'.cell? ⟨g12, 0, none⟩ = some (.int .i64 (wy f s).1) ∧ w'.cell? ⟨g12, 1, none⟩ = some (.int .i64 (wy f s).2.1) ∧ w'.cell? ⟨g12, 2, none⟩ = some (.int .i64 (wy f s).2.2)) := fun w' hw => ⟨hw, cell_of_row _ _ 0 _ _ _ (hw.heap r12), cell_of_row _ _ 1 _ _ _ (hw.heap r12), cell_of_row _ _ 2 _ _ _ (hw.heap r12)⟩
  have AW := Ab.refl wc
  have R12 := hid r12
  have R13 := hid r13
  clear r12 r13
  go_upto_region 6 with fail
  go_cut [14, 15] from 44 to 46 (fun s14 s15 wx => ∃ g14 g15, s14 = .pointer (some ⟨g14, 0, none⟩) ∧ s15 = .pointer (some ⟨g15, 0, none⟩) ∧ Ab wc wx ∧ wc.heap.size ≤ g14 ∧ wc.heap.size ≤ g15 ∧ g14 ≠ g15 ∧ wx.heap[g14]? = some (.cells #[.int .i64 (wy f s).1, .int .i64 (wy f s).2.1, .int .i64 (wy f s).2.2] 53) ∧ wx.heap[g15]? = some (.cells #[.int .i64 (sc (-1) (wy f s)).1, .int .i64 (sc (-1) (wy f s)).2.1, .int .i64 (sc (-1) (wy f s)).2.2] 53))
  case first =>
    go_region_held3 (fun w' => Ab wc w' ∧ w'.cell? ⟨g12, 0, none⟩ = some (.int .i64 (wy f s).1) ∧ w'.cell? ⟨g12, 1, none⟩ = some (.int .i64 (wy f s).2.1) ∧ w'.cell? ⟨g12, 2, none⟩ = some (.int .i64 (wy f s).2.2)) ((refine KS.out _ ?_; (with_reducible (repeat (first | assumption | apply Ab.drew | apply Ab.alloc | (refine Ab.call ?_ (by assumption)) | (refine Ab.setk ?_ (by first | assumption | exact Nat.le_refl _ | omega) _)))); done)) (first
      | (go_at_call 28; refine (TM.out _).mono ?_; rintro e w2 ⟨rfl, rfl⟩))
    all_goals go_wp2_with fail
    all_goals go_meet
    all_goals refine ⟨_, _, rfl, rfl, ?_, ?_, ?_, ?_, ?_, ?_⟩
    all_goals first
      | ((with_reducible (repeat (first | assumption | apply Ab.drew | apply Ab.alloc))); done)
      | omega
      | (rw [heap_drew]; (repeat (first | exact heap_at _ _ _ (by first | (simp; done) | (simp; omega)) | rw [Below.heap_alloc _ _ _ (by first | (simp; done) | (simp; omega))])); done)
  case rest =>
  obtain ⟨g14, g15, rfl, rfl, A6, h14, h15, hne, r14, r15⟩ := hcut
  have r12 := A6.heap R12.out
  have r13 := A6.heap R13.out
  have A7 := hid (hA.out.trans A6)
  have n13 : g13 < g14 ∧ g13 < g15 ∧ g12 < g14 ∧ g12 < g15 ∧ w.heap.size ≤ g14 ∧ w.heap.size ≤ g15 := by
    have := lt_of_block R13.out
    have := lt_of_block R12.out
    have := hA.out.size
    omega
  obtain ⟨-, q0, q1, q2⟩ := rowfacts r13
  obtain ⟨-, o0, o1, o2⟩ := rowfacts r12
  have R13' := hid r13
  have R14 := hid r14
  have R15 := hid r15
  have PR : Hid (∀ v, pl q v = r → Sm v → ∀ u, Calls Tryd.prog 27 #[.agg #[.int .i64 q.1, .int .i64 q.2.1, .int .i64 q.2.2], .agg #[.int .i64 v.1, .int .i64 v.2.1, .int .i64 v.2.2]] u fun e w' => e = .returned (.agg #[.int .i64 r.1, .int .i64 r.2.1, .int .i64 r.2.2]) ∧ Below u.heap.size u w') := fun v hv sv u => by
    rw [← hv]; exact plus_at q v u sq sv
  have UN : Hid (∀ u, Ab w u → Calls Tryd.prog 30 #[.int .i64 n, .agg #[.int .i64 r.1, .int .i64 r.2.1, .int .i64 r.2.2]] u fun e w' => e = .returned (.tuple #[.int .i64 f2, .int .i64 i2, .int .i64 j2]) ∧ Below u.heap.size u w') := fun u hu => under_at n f2 i2 j2 r u hn hf2 hi2 hj2 hr (HH.out.to hu)
  have CE := hid (fun u => cell_at n f2 i2 j2 u)
  have SD : Hid (∀ u, Ab w u → Calls Tryd.prog 32 #[.int .i64 f2, .agg #[.int .i64 bk.1, .int .i64 bk.2.1, .int .i64 bk.2.2]] u fun e w' => e = .returned (.int .i64 s2) ∧ Below u.heap.size u w') := fun u hu => sideOf_at f2 s2 bk u hf2 hs2 hb (HH.out.to hu)
  have T8 := hid (fun u => times_at (cC f) (-1) u (sc_sm (un_C hf) (by omega)))
  have SF := hid (sc_sm (k := -1) (un_C hf) (by omega))
  have SW := hid (un_wy (s := s) hf).sm
  have hf' : (f : Int) < 6 := by omega
  have H15 := hid h15
  have HNE := hid hne
  have N13 := hid n13
  clear r12 r13 r14 r15 n13 h14 h15 hne TM KS AW R12 R13 hA A6
  rcases hw with ⟨w1, w2, w3⟩ | ⟨w1, w2, w3⟩
  · have PR' := hid (PR.out _ w2 SW.out)
    rw [w3] at R15
    clear w2 w3 PR T8 SF SW hq
    go_upto_region 9 with (go_at_call 29; refine (AL.out _).mono ?_; rintro e w7 ⟨rfl, b7⟩)
    obtain ⟨-, t0, t1, t2⟩ := rowfacts (Ab.heap b7 R13'.out)
    obtain ⟨-, t3, t4, t5⟩ := rowfacts (Ab.heap b7 R14.out)
    have A9 := hid (A7.out.call b7)
    have R15' := hid (Ab.heap b7 R15.out)
    go_wp2_with (first
      | (go_at_call 27; refine (PR'.out _).mono ?_; rintro e w8 ⟨rfl, b8⟩)
      | (go_at_call 30; refine (UN.out _ (A9.out.call b8)).mono ?_; rintro e w9 ⟨rfl, b9⟩))
    have B15 := Ab.heap b9 (Ab.heap b8 R15'.out)
    have A10 := hid ((A9.out.call b8).call b9)
    obtain ⟨U, F, hF1, hF2⟩ := cls w9
    have HF := hid hF2
    have HF1 := hid hF1
    have x0 : ∀ u, (F u).cell? ⟨g15, 0, none⟩ = some (.int .i64 bk.1) := fun u => cell_of_row _ _ 0 _ _ _ ((hF1 u).heap B15)
    have x1 : ∀ u, (F u).cell? ⟨g15, 1, none⟩ = some (.int .i64 bk.2.1) := fun u => cell_of_row _ _ 1 _ _ _ ((hF1 u).heap B15)
    have x2 : ∀ u, (F u).cell? ⟨g15, 2, none⟩ = some (.int .i64 bk.2.2) := fun u => cell_of_row _ _ 2 _ _ _ ((hF1 u).heap B15)
    have SD' := hid (fun u => SD.out (F u) (A10.out.trans (hF1 u)))
    have D := HF.out _ (Ab.refl w9).drew
    clear hF1 hF2 B15 b8 b9 UN SD PR'
    refine region_cls F (by kernel_rfl) (by kernel_rfl) D ?_
    repeat (go_big_quiet_step (first | rfl | (go_at_call 31; exact (CE.out _).mono (fun _ _ ⟨he, hw⟩ => ⟨he, _, hw⟩)) | (go_at_call 32; exact calls_cls HF HF1 (SD'.out _))))
    refine wpQuiet_nil ?_
    intro wz hwz
    obtain ⟨u, rfl⟩ := hwz
    go_wp2
    go_ret2
    exact ⟨rfl, A10.out.trans (HF1.out u)⟩
  · have PR' := hid (PR.out _ w2 SF.out)
    have W3 := hid w3
    clear w2 w3 PR SW hq
    have hf0 : (0 : Int) ≤ (f : Int) := by omega
    have FRW := hid (fun u (hu : Ab w u) => (HH.out.to hu).2 f hf)
    go_upto_region 8 with (go_at_call 29; refine (AL.out _).mono ?_; rintro e w7 ⟨rfl, b7⟩)
    have A8 := A7.out.call b7
    have ne : ¬ g14 = g15 := HNE.out
    have ne' : ¬ g15 = g14 := fun e => HNE.out e.symm
    have nz : ¬ g14 = 0 := by have := N13.out; omega
    have nz' : ¬ g15 = 0 := by have := N13.out; omega
    have nz2 : ¬ 0 = g14 := by have := N13.out; omega
    have nz3 : ¬ 0 = g15 := by have := N13.out; omega
    have nn := N13.out
    have hz : 0 < w.heap.size := HH.out.1
    have KS : Hid (∀ w', Ay w7 g14 g15 w' → Ay w7 g14 g15 w' ∧ w'.cell? ⟨0, f * 9, none⟩ = some (.int .i64 (cC f).1) ∧ w'.cell? ⟨0, f * 9 + 1, none⟩ = some (.int .i64 (cC f).2.1) ∧ w'.cell? ⟨0, f * 9 + 2, none⟩ = some (.int .i64 (cC f).2.2)) := fun w' hw => by
      obtain ⟨⟨k0, k1, k2⟩, _, _⟩ := FRW.out w' (hw.ab A8 nn.2.2.2.2.1 nn.2.2.2.2.2)
      exact ⟨hw, k0, k1, k2⟩
    have Y0 : Ay w7 g14 g15 w7 := (Ab.refl w7).y (Ab.heap b7 R14.out) (Ab.heap b7 R15.out)
    have R13'' := hid (Ab.heap b7 R13'.out)
    have A8' := hid A8
    have B7 := hid b7
    clear A8 nn b7 R13' R14 R15 A7
    go_cut [8] from 52 to 60 (fun s8 wx => s8 = .int .i64 f ∧ Ay w7 g14 g15 wx ∧ wx.heap[g14]? = some (.cells #[.int .i64 (sc (-1) (cC f)).1, .int .i64 (sc (-1) (cC f)).2.1, .int .i64 (sc (-1) (cC f)).2.2] 53) ∧ wx.heap[g15]? = some (.cells #[.int .i64 (cC f).1, .int .i64 (cC f).2.1, .int .i64 (cC f).2.2] 53))
    case first =>
      go_region_held3 (fun w' => Ay w7 g14 g15 w' ∧ w'.cell? ⟨0, f * 9, none⟩ = some (.int .i64 (cC f).1) ∧ w'.cell? ⟨0, f * 9 + 1, none⟩ = some (.int .i64 (cC f).2.1) ∧ w'.cell? ⟨0, f * 9 + 2, none⟩ = some (.int .i64 (cC f).2.2)) ((refine KS.out _ ?_; (with_reducible (repeat (first | assumption | apply Ay.drew | (refine Ay.setg ?_ ne _ _) | (refine Ay.seth ?_ ne _ _) | (refine Ay.call ?_ (by assumption))))); done)) (first
        | (go_at_call 28; refine (T8.out _).mono ?_; rintro e w2 ⟨rfl, b2⟩; have y2 := Y0.drew.call b2; have y3 := y2.factsg; have y4 := y2.swap.factsg; obtain ⟨⟨_, _, _⟩, _, _, _⟩ := y3; obtain ⟨⟨_, _, _⟩, _, _, _⟩ := y4))
      have Y2 := Y0.drew.call b2
      obtain ⟨-, ⟨a1, a2, a3, hg⟩, ⟨c1, c2, c3, hh⟩⟩ := id Y2
      clear Y0 KS
      go_wp2_with fail
      go_meet
      refine ⟨rfl, (((((Y2.setg ne _ _).setg ne _ _).setg ne _ _).seth ne _ _).seth ne _ _).seth ne _ _, ?_, ?_⟩
      · exact (Below.heap_setCell _ _ _ _ ne).trans ((Below.heap_setCell _ _ _ _ ne).trans ((Below.heap_setCell _ _ _ _ ne).trans (row3 hg)))
      · exact row3 ((Below.heap_setCell _ _ _ _ ne').trans ((Below.heap_setCell _ _ _ _ ne').trans ((Below.heap_setCell _ _ _ _ ne').trans hh)))
    case rest =>
      obtain ⟨rfl, YB, z14, z15⟩ := hcut
      rw [W3.out] at z15
      have nn : g13 ≠ g14 ∧ g13 ≠ g15 ∧ w.heap.size ≤ g14 ∧ w.heap.size ≤ g15 := by have := N13.out; omega
      clear KS Y0
      obtain ⟨-, t0, t1, t2⟩ := rowfacts (YB.heap nn.1 nn.2.1 R13''.out)
      obtain ⟨-, t3, t4, t5⟩ := rowfacts z14
      have A9 := hid (YB.ab A8'.out nn.2.2.1 nn.2.2.2)
      have R15' := hid z15
      go_wp2_with (first
        | (go_at_call 27; refine (PR'.out _).mono ?_; rintro e w8 ⟨rfl, b8⟩)
        | (go_at_call 30; refine (UN.out _ (A9.out.call b8)).mono ?_; rintro e w9 ⟨rfl, b9⟩))
      have B15 := Ab.heap b9 (Ab.heap b8 R15'.out)
      have A10 := hid ((A9.out.call b8).call b9)
      obtain ⟨U, F, hF1, hF2⟩ := cls w9
      have HF := hid hF2
      have HF1 := hid hF1
      have x0 : ∀ u, (F u).cell? ⟨g15, 0, none⟩ = some (.int .i64 bk.1) := fun u => cell_of_row _ _ 0 _ _ _ ((hF1 u).heap B15)
      have x1 : ∀ u, (F u).cell? ⟨g15, 1, none⟩ = some (.int .i64 bk.2.1) := fun u => cell_of_row _ _ 1 _ _ _ ((hF1 u).heap B15)
      have x2 : ∀ u, (F u).cell? ⟨g15, 2, none⟩ = some (.int .i64 bk.2.2) := fun u => cell_of_row _ _ 2 _ _ _ ((hF1 u).heap B15)
      have SD' := hid (fun u => SD.out (F u) (A10.out.trans (hF1 u)))
      have D := HF.out _ (Ab.refl w9).drew
      clear hF1 hF2 B15 b8 b9 UN SD PR'
      refine region_cls F (by kernel_rfl) (by kernel_rfl) D ?_
      repeat (go_big_quiet_step (first | rfl | (go_at_call 31; exact (CE.out _).mono (fun _ _ ⟨he, hw⟩ => ⟨he, _, hw⟩)) | (go_at_call 32; exact calls_cls HF HF1 (SD'.out _))))
      refine wpQuiet_nil ?_
      intro wz hwz
      obtain ⟨u, rfl⟩ := hwz
      go_wp2
      go_ret2
      exact ⟨rfl, A10.out.trans (HF1.out u)⟩
end Go.Proofs.YtdgkmaamjdglmaaDoor
