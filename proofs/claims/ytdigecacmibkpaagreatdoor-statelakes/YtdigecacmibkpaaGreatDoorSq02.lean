/-
  Some of the texts of this proof, one behind the other.
-/
import Derived.Deep.MidRow
import Derived.Test.YtdigecacmibkpaaGreatDoorSq01
set_option maxRecDepth 100000
set_option maxHeartbeats 400000000
namespace Go.Proofs.YtdigecacmibkpaaGreatDoor
open Go.RowKit Cu
def Ay (W : World) (g h : Nat) (w : World) : Prop :=
  (w.os = W.os /\ w.tape = W.tape /\ w.output = W.output /\ W.heap.size <= w.heap.size /\ ∀ k, k < W.heap.size -> k ≠ g -> k ≠ h -> w.heap[k]? = W.heap[k]?) ∧
  (∃ a b c : Value, w.heap[g]? = some (.cells #[a, b, c] 107)) /\ (∃ a b c : Value, w.heap[h]? = some (.cells #[a, b, c] 107))
theorem Ab.y {W w : World} (h : Ab W w) {g k : Nat} {a b c x y z : Value} (hg : W.heap[g]? = some (.cells #[a, b, c] 107)) (hk : W.heap[k]? = some (.cells #[x, y, z] 107)) : Ay W g k w :=
  ⟨⟨Below.os h, Below.tape h, Below.output h, Below.size h, fun i hi _ _ => Below.block h i hi⟩, ⟨_, _, _, h.heap hg⟩, ⟨_, _, _, h.heap hk⟩⟩
theorem Ay.drew {W w : World} {g h : Nat} (a : Ay W g h w) : Ay W g h w.drew := a
theorem Ay.call {W u w : World} {g h : Nat} (a : Ay W g h u) (b : Below u.heap.size u w) : Ay W g h w := by
  obtain ⟨⟨h1, h2, h3, h4, h5⟩, ⟨x, y, z, hg⟩, ⟨x', y', z', hh⟩⟩ := a
  exact ⟨⟨b.os.trans h1, b.tape.trans h2, b.output.trans h3, Nat.le_trans h4 b.size, fun k hk hne hne2 => (b.block k (by omega)).trans (h5 k hk hne hne2)⟩, ⟨x, y, z, (b.block g (lt_of_block hg)).trans hg⟩, ⟨x', y', z', (b.block h (lt_of_block hh)).trans hh⟩⟩
theorem set_k {a b c v : Value} (k : Nat) : ∃ x y z : Value, #[a, b, c].setIfInBounds k v = #[x, y, z] := by
  rcases k with _ | _ | _ | k
  · exact ⟨v, b, c, rfl⟩
  · exact ⟨a, v, c, rfl⟩
  · exact ⟨a, b, v, rfl⟩
  · exact ⟨a, b, c, by simp [Array.setIfInBounds]⟩
theorem Ay.setg {W w : World} {g h : Nat} (a : Ay W g h w) (hne : g ≠ h) (k : Nat) (v : Value) : Ay W g h (w.setCell ⟨g, k, none⟩ v) := by
  obtain ⟨⟨h1, h2, h3, h4, h5⟩, ⟨x, y, z, hg⟩, ⟨x', y', z', hh⟩⟩ := a
  obtain ⟨p, q, r, e⟩ := set_k (a := x) (b := y) (c := z) (v := v) k
  have o := one_set (k := k) (v := v) hg
  rw [e] at o
  exact ⟨⟨h1, h2, h3, by simpa [World.setCell] using h4, fun i hi n1 n2 => (Below.heap_setCell _ _ _ _ n1).trans (h5 i hi n1 n2)⟩, ⟨p, q, r, o⟩, ⟨x', y', z', (Below.heap_setCell _ _ _ _ (by exact fun e => hne e.symm)).trans hh⟩⟩
theorem Ay.swap {W w : World} {g h : Nat} (a : Ay W g h w) : Ay W h g w :=
  ⟨⟨a.1.1, a.1.2.1, a.1.2.2.1, a.1.2.2.2.1, fun k hk n1 n2 => a.1.2.2.2.2 k hk n2 n1⟩, a.2.2, a.2.1⟩
theorem Ay.seth {W w : World} {g h : Nat} (a : Ay W g h w) (hne : g ≠ h) (k : Nat) (v : Value) : Ay W g h (w.setCell ⟨h, k, none⟩ v) := (a.swap.setg hne.symm k v).swap
theorem Ay.heap {W w : World} {g h k : Nat} {o : Obj} (a : Ay W g h w) (n1 : k ≠ g) (n2 : k ≠ h) (hk : W.heap[k]? = some o) : w.heap[k]? = some o := by
  have hlt : k < W.heap.size := by
    rcases Nat.lt_or_ge k W.heap.size with h1 | h1
    · exact h1
    · rw [Array.getElem?_eq_none h1] at hk; cases hk
  exact (a.1.2.2.2.2 k hlt n1 n2).trans hk
theorem Ay.ab {w0 W w : World} {g h : Nat} (a : Ay W g h w) (b : Ab w0 W) (hg : w0.heap.size <= g) (hh : w0.heap.size <= h) : Ab w0 w := by
  obtain ⟨⟨h1, h2, h3, h4, h5⟩, _⟩ := a
  exact ⟨h1.trans b.os, h2.trans b.tape, h3.trans b.output, Nat.le_trans (Below.size b) h4, fun k hk => (h5 k (Nat.lt_of_lt_of_le hk (Below.size b)) (by omega) (by omega)).trans (b.block k hk)⟩
theorem Ay.factsg {W w : World} {g h : Nat} (a : Ay W g h w) : (w.frozen? ⟨g, 0, none⟩ = false /\ w.frozen? ⟨g, 1, none⟩ = false /\ w.frozen? ⟨g, 2, none⟩ = false) /\ w.cell? ⟨g, 0, none⟩ = some (rv w g 0) /\ w.cell? ⟨g, 1, none⟩ = some (rv w g 1) /\ w.cell? ⟨g, 2, none⟩ = some (rv w g 2) := by
  obtain ⟨_, ⟨x, y, z, hg⟩, _⟩ := a
  have e : ∀ k, w.cell? ⟨g, k, none⟩ = #[x, y, z][k]? := fun k => cell_of_row _ _ k _ _ _ hg
  refine ⟨⟨free_row hg 0, free_row hg 1, free_row hg 2⟩, ?_, ?_, ?_⟩ <;> simp [rv, e]
theorem beside_go (n c f i j s f2 i2 j2 s2 : Nat) (p q r bk : P3) (d : Int) (w : World) (hn : 1 <= n /\ n <= 32) (hf : f < 6) (hs : s < 4) (hf2 : f2 < 6) (hi2 : i2 < n) (hj2 : j2 < n) (hs2 : s2 < 4) (hi : i < n) (hj : j < n) (h : Fr w)
    (PL : Hid (∀ w, Calls Tryz.prog 81 #[.int .i64 n, .int .i64 c] w fun e w' => e = .returned (.tuple #[.int .i64 f, .int .i64 i, .int .i64 j, .bool true]) /\ ∃ k, w' = w.drewN k))
    (hp : md n f i j = p) (hq : pl p (wy f s) = q) (hd : dt q (wy f s) = d) (sp : Sm p) (sq : Sm q)
    (hr : md n f2 i2 j2 = r) (hb : wy f2 s2 = bk) (hw : (¬ d = n /\ pl q (wy f s) = r /\ sc (-1) (wy f s) = bk) \/ (d = n /\ pl q (sc (-1) (cC f)) = r /\ cC f = bk)) :
    Calls Tryz.prog 112 #[.int .i64 n, .int .i64 c, .int .i64 s] w fun e w' => e = .returned (.tuple #[.int .i64 (cN n f2 i2 j2), .int .i64 s2]) /\ Below w.heap.size w w' := by
  have CT : Hid (∀ w, Calls Tryz.prog 82 #[.int .i64 s, .int .i64 4] w fun e w' => e = .returned (.bool true) /\ w' = w) := fun w => by
    have := counts_at s 4 w
    rwa [show inR s 4 = true by rw [inR_iff]; omega] at this
  have WY := hid (fun (u : World) (hu : Ab w u) => way_at f s u hf hs (h.to hu))
  have MI : Hid (∀ u, Ab w u -> Calls Tryz.prog 86 #[.int .i64 n, .int .i64 f, .int .i64 i, .int .i64 j] u fun e w' => e = .returned (.agg #[.int .i64 p.1, .int .i64 p.2.1, .int .i64 p.2.2]) /\ Below u.heap.size u w') := fun u hu => by
    rw [<- hp]; exact middle_at n f i j u (by omega) hf (by omega) (by omega) (h.to hu)
  have PQ : Hid (∀ u, Calls Tryz.prog 126 #[.agg #[.int .i64 p.1, .int .i64 p.2.1, .int .i64 p.2.2], .agg #[.int .i64 (wy f s).1, .int .i64 (wy f s).2.1, .int .i64 (wy f s).2.2]] u fun e w' => e = .returned (.agg #[.int .i64 q.1, .int .i64 q.2.1, .int .i64 q.2.2]) /\ Below u.heap.size u w') := fun u => by
    rw [<- hq]; exact plus_at p (wy f s) u sp (un_wy hf).sm
  have TM := hid (fun u => times_ex (wy f s) (-1) u (sc_sm (un_wy hf) (by omega)))
  have AL : Hid (∀ u, Calls Tryz.prog 121 #[.agg #[.int .i64 q.1, .int .i64 q.2.1, .int .i64 q.2.2], .agg #[.int .i64 (wy f s).1, .int .i64 (wy f s).2.1, .int .i64 (wy f s).2.2]] u fun e w' => e = .returned (.int .i64 d) /\ Below u.heap.size u w') := fun u => by
    rw [<- hd]; exact along_at q (wy f s) u sq (un_wy hf)
  have HH := hid h
  have R0 := hid (Ab.refl w)
  have HP := hid hp
  clear h hp hd sp
  go_enter Tryz.func112, Tryz.ntmps112
  go_upto_region 4 with (first
    | (go_at_call 81; refine (PL.out _).mono ?_; rintro e w' ⟨rfl, k, rfl⟩)
    | (go_at_call 82; refine (CT.out _).mono ?_; rintro e w' ⟨rfl, rfl⟩))
  have A1 : Ab w (w.drewN k) := (Ab.refl w).drewN k
  go_wp2_with fail
  refine (WY.out _ A1).mono ?_
  rintro e w1 ⟨rfl, b1⟩
  have A2 := hid (A1.call b1)
  clear b1 A1 PL CT WY R0
  go_upto_region 5 with fail
  generalize hW : World.alloc w1 _ = W
  obtain ⟨g12, hg12⟩ : ∃ g, w1.heap.size = g := ⟨_, rfl⟩
  have r12 : W.heap[g12]? = some (.cells #[.int .i64 (wy f s).1, .int .i64 (wy f s).2.1, .int .i64 (wy f s).2.2] 107) := by rw [<- hW, <- hg12]; exact heap_alloc_new _ _
  have A3 : Ab w W := by rw [<- hW]; exact A2.out.alloc _
  rw [hg12]
  clear hW hg12 A2
  have KS : Hid (∀ w', Ab W w' -> Ab W w' /\ w'.cell? ⟨g12, 0, none⟩ = some (.int .i64 (wy f s).1) /\ w'.cell? ⟨g12, 1, none⟩ = some (.int .i64 (wy f s).2.1) /\ w'.cell? ⟨g12, 2, none⟩ = some (.int .i64 (wy f s).2.2)) := fun w' hw => ⟨hw, cell_of_row _ _ 0 _ _ _ (hw.heap r12), cell_of_row _ _ 1 _ _ _ (hw.heap r12), cell_of_row _ _ 2 _ _ _ (hw.heap r12)⟩
  have AW := Ab.refl W
  have R12 := hid r12
  have A3' := hid A3
  have MI' : Hid (∀ u, Ab W u -> Calls Tryz.prog 86 #[.int .i64 n, .int .i64 f, .int .i64 i, .int .i64 j] u fun e w' => e = .returned (.agg #[.int .i64 p.1, .int .i64 p.2.1, .int .i64 p.2.2]) /\ Below u.heap.size u w' /\ Ab W w') := fun u hu => (MI.out u (A3.trans hu)).mono fun _ _ ⟨he, hb⟩ => ⟨he, hb, hu.call hb⟩
  have PQ' : Hid (∀ u, Ab W u -> Calls Tryz.prog 126 #[.agg #[.int .i64 p.1, .int .i64 p.2.1, .int .i64 p.2.2], .agg #[.int .i64 (wy f s).1, .int .i64 (wy f s).2.1, .int .i64 (wy f s).2.2]] u fun e w' => e = .returned (.agg #[.int .i64 q.1, .int .i64 q.2.1, .int .i64 q.2.2]) /\ Below u.heap.size u w' /\ Ab W w') := fun u hu => (PQ.out u).mono fun _ _ ⟨he, hb⟩ => ⟨he, hb, hu.call hb⟩
  clear r12 A3 MI PQ
  go_cut [13] from 37 to 43 (fun s13 wx => ∃ g13, s13 = .pointer (some ⟨g13, 0, none⟩) /\ Ab W wx /\ W.heap.size <= g13 /\ wx.heap[g13]? = some (.cells #[.int .i64 q.1, .int .i64 q.2.1, .int .i64 q.2.2] 107))
  case first =>
    go_region_held3 (fun w' => Ab W w' /\ w'.cell? ⟨g12, 0, none⟩ = some (.int .i64 (wy f s).1) /\ w'.cell? ⟨g12, 1, none⟩ = some (.int .i64 (wy f s).2.1) /\ w'.cell? ⟨g12, 2, none⟩ = some (.int .i64 (wy f s).2.2)) ((refine KS.out _ ?_; (with_reducible (repeat (first | assumption | apply Ab.drew | apply Ab.alloc | (refine Ab.call ?_ (by assumption)) | (refine Ab.setk ?_ (by first | assumption | exact Nat.le_refl _ | omega) _)))); done)) (first
      | (go_at_call 86; refine (MI'.out _ ?_).mono ?_; (exact And.left (by assumption)); rintro e w2 ⟨rfl, b2, a2⟩; have l2 : W.heap.size <= w2.heap.size := Nat.le_trans (by first | exact Nat.le_refl _ | (simp; done)) (Below.size b2); (try (have n2 := newrow b2; have n2' := rowfacts n2; obtain ⟨⟨_, _, _⟩, _, _, _⟩ := n2')))
      | (go_at_call 126; refine (PQ'.out _ ?_).mono ?_; (exact And.left (by assumption)); rintro e w3 ⟨rfl, b3, a3⟩; (try (have n3 := Ab.heap b3 n2; have n3' := rowfacts n3; obtain ⟨⟨_, _, _⟩, _, _, _⟩ := n3')); (try (have n4 := newrow' b3; have n4' := rowfacts n4; obtain ⟨⟨_, _, _⟩, _, _, _⟩ := n4'))))
    all_goals go_wp2_with fail
    all_goals go_meet
    all_goals refine ⟨_, rfl, ?_, ?_, ?_⟩
    all_goals first
      | exact heap_alloc_new _ _
      | exact row3 n4
      | exact row3 n3
      | exact a3.size
      | exact l2
      | exact Nat.le_refl _
      | ((with_reducible (repeat (first | assumption | apply Ab.drew | apply Ab.alloc | (refine Ab.setk ?_ (by first | assumption | exact Nat.le_refl _ | omega) _)))); done)
  case rest =>
  obtain ⟨g13, rfl, A4, hg13, r13⟩ := hcut
  have r12 := A4.heap R12.out
  have hA := hid (A3'.out.trans A4)
  clear KS AW R12 A3' MI' PQ' hg13 A4
  have KS : Hid (∀ w', Ab wc w' -> Ab wc w' /\ w'.cell? ⟨g12, 0, none⟩ = some (.int .i64 (wy f s).1) /\ w'.cell? ⟨g12, 1, none⟩ = some (.int .i64 (wy f s).2.1) /\ w'.cell? ⟨g12, 2, none⟩ = some (.int .i64 (wy f s).2.2)) := fun w' hw => ⟨hw, cell_of_row _ _ 0 _ _ _ (hw.heap r12), cell_of_row _ _ 1 _ _ _ (hw.heap r12), cell_of_row _ _ 2 _ _ _ (hw.heap r12)⟩
  have AW := Ab.refl wc
  have R12 := hid r12
  have R13 := hid r13
  clear r12 r13
  go_upto_region 6 with fail
  go_cut [14, 15] from 44 to 46 (fun s14 s15 wx => ∃ g14 g15, s14 = .pointer (some ⟨g14, 0, none⟩) /\ s15 = .pointer (some ⟨g15, 0, none⟩) /\ Ab wc wx /\ wc.heap.size <= g14 /\ wc.heap.size <= g15 /\ g14 ≠ g15 /\ wx.heap[g14]? = some (.cells #[.int .i64 (wy f s).1, .int .i64 (wy f s).2.1, .int .i64 (wy f s).2.2] 107) /\ wx.heap[g15]? = some (.cells #[.int .i64 (sc (-1) (wy f s)).1, .int .i64 (sc (-1) (wy f s)).2.1, .int .i64 (sc (-1) (wy f s)).2.2] 107))
  case first =>
    go_region_held3 (fun w' => Ab wc w' /\ w'.cell? ⟨g12, 0, none⟩ = some (.int .i64 (wy f s).1) /\ w'.cell? ⟨g12, 1, none⟩ = some (.int .i64 (wy f s).2.1) /\ w'.cell? ⟨g12, 2, none⟩ = some (.int .i64 (wy f s).2.2)) ((refine KS.out _ ?_; (with_reducible (repeat (first | assumption | apply Ab.drew | apply Ab.alloc | (refine Ab.call ?_ (by assumption)) | (refine Ab.setk ?_ (by first | assumption | exact Nat.le_refl _ | omega) _)))); done)) (first
      | (go_at_call 125; refine (TM.out _).mono ?_; rintro e w2 ⟨rfl, rfl⟩))
    all_goals go_wp2_with fail
    all_goals go_meet
    all_goals refine ⟨_, _, rfl, rfl, ?_, ?_, ?_, ?_, ?_, ?_⟩
    all_goals first
      | ((with_reducible (repeat (first | assumption | apply Ab.drew | apply Ab.alloc))); done)
      | omega
      | (rw [heap_drew]; (repeat (first | exact heap_at _ _ _ (by first | (simp; done) | (simp; omega)) | rw [Below.heap_alloc _ _ _ (by first | (simp; done) | (simp; omega))])); done)
  case rest =>
  obtain ⟨g14, g15, rfl, rfl, A6, h14, h15, hne, r14, r15⟩ := hcut
  have r12 := A6.heap R12.out
  have r13 := A6.heap R13.out
  have A7 := hid (hA.out.trans A6)
  have n13 : g13 < g14 /\ g13 < g15 /\ g12 < g14 /\ g12 < g15 /\ w.heap.size <= g14 /\ w.heap.size <= g15 := by
    have := lt_of_block R13.out
    have := lt_of_block R12.out
    have := hA.out.size
    omega
  obtain ⟨-, q0, q1, q2⟩ := rowfacts r13
  obtain ⟨-, o0, o1, o2⟩ := rowfacts r12
  have R13' := hid r13
  have R14 := hid r14
  have R15 := hid r15
  have PR : Hid (∀ v, pl q v = r -> Sm v -> ∀ u, Calls Tryz.prog 126 #[.agg #[.int .i64 q.1, .int .i64 q.2.1, .int .i64 q.2.2], .agg #[.int .i64 v.1, .int .i64 v.2.1, .int .i64 v.2.2]] u fun e w' => e = .returned (.agg #[.int .i64 r.1, .int .i64 r.2.1, .int .i64 r.2.2]) /\ Below u.heap.size u w') := fun v hv sv u => by
    rw [<- hv]; exact plus_at q v u sq sv
  have UN : Hid (∀ u, Ab w u -> Calls Tryz.prog 84 #[.int .i64 n, .agg #[.int .i64 r.1, .int .i64 r.2.1, .int .i64 r.2.2]] u fun e w' => e = .returned (.tuple #[.int .i64 f2, .int .i64 i2, .int .i64 j2]) /\ Below u.heap.size u w') := fun u hu => under_at n f2 i2 j2 r u hn hf2 hi2 hj2 hr (HH.out.to hu)
  have CE := hid (fun u => cell_at n f2 i2 j2 u)
  have SD : Hid (∀ u, Ab w u -> Calls Tryz.prog 88 #[.int .i64 f2, .agg #[.int .i64 bk.1, .int .i64 bk.2.1, .int .i64 bk.2.2]] u fun e w' => e = .returned (.int .i64 s2) /\ Below u.heap.size u w') := fun u hu => sideOf_at f2 s2 bk u hf2 hs2 hb (HH.out.to hu)
  have T8 := hid (fun u => times_at (cC f) (-1) u (sc_sm (un_C hf) (by omega)))
  have SF := hid (sc_sm (k := -1) (un_C hf) (by omega))
  have SW := hid (un_wy (s := s) hf).sm
  have hf' : (f : Int) < 6 := by omega
  have H15 := hid h15
  have HNE := hid hne
  have N13 := hid n13
  clear r12 r13 r14 r15 n13 h14 h15 hne TM KS AW R12 R13 hA A6
  rcases hw with ⟨w1, w2, w3⟩ | ⟨w1, w2, w3⟩
  · have PR' := hid (PR.out _ w2 SW.out)
    rw [w3] at R15
    clear w2 w3 PR T8 SF SW hq
    go_upto_region 9 with (go_at_call 121; refine (AL.out _).mono ?_; rintro e w7 ⟨rfl, b7⟩)
    obtain ⟨-, t0, t1, t2⟩ := rowfacts (Ab.heap b7 R13'.out)
    obtain ⟨-, t3, t4, t5⟩ := rowfacts (Ab.heap b7 R14.out)
    have A9 := hid (A7.out.call b7)
    have R15' := hid (Ab.heap b7 R15.out)
    go_wp2_with (first
      | (go_at_call 126; refine (PR'.out _).mono ?_; rintro e w8 ⟨rfl, b8⟩)
      | (go_at_call 84; refine (UN.out _ (A9.out.call b8)).mono ?_; rintro e w9 ⟨rfl, b9⟩))
    have B15 := Ab.heap b9 (Ab.heap b8 R15'.out)
    have A10 := hid ((A9.out.call b8).call b9)
    obtain ⟨U, F, hF1, hF2⟩ := cls w9
    have HF := hid hF2
    have HF1 := hid hF1
    have x0 : ∀ u, (F u).cell? ⟨g15, 0, none⟩ = some (.int .i64 bk.1) := fun u => cell_of_row _ _ 0 _ _ _ ((hF1 u).heap B15)
    have x1 : ∀ u, (F u).cell? ⟨g15, 1, none⟩ = some (.int .i64 bk.2.1) := fun u => cell_of_row _ _ 1 _ _ _ ((hF1 u).heap B15)
    have x2 : ∀ u, (F u).cell? ⟨g15, 2, none⟩ = some (.int .i64 bk.2.2) := fun u => cell_of_row _ _ 2 _ _ _ ((hF1 u).heap B15)
    have SD' := hid (fun u => SD.out (F u) (A10.out.trans (hF1 u)))
    have D := HF.out _ (Ab.refl w9).drew
    clear hF1 hF2 B15 b8 b9 UN SD PR'
    refine region_cls F (by kernel_rfl) (by kernel_rfl) D ?_
    repeat (go_big_quiet_step (first | rfl | (go_at_call 87; exact (CE.out _).mono (fun _ _ ⟨he, hw⟩ => ⟨he, _, hw⟩)) | (go_at_call 88; exact calls_cls HF HF1 (SD'.out _))))
    refine wpQuiet_nil ?_
    intro wz hwz
    obtain ⟨u, rfl⟩ := hwz
    go_wp2
    go_ret2
    exact ⟨rfl, A10.out.trans (HF1.out u)⟩
  · have PR' := hid (PR.out _ w2 SF.out)
    have W3 := hid w3
    clear w2 w3 PR SW hq
    have hf0 : (0 : Int) <= (f : Int) := by omega
    have FRW := hid (fun u (hu : Ab w u) => (HH.out.to hu).2 f hf)
    go_upto_region 8 with (go_at_call 121; refine (AL.out _).mono ?_; rintro e w7 ⟨rfl, b7⟩)
    have A8 := A7.out.call b7
    have ne : ¬ g14 = g15 := HNE.out
    have ne' : ¬ g15 = g14 := fun e => HNE.out e.symm
    have nz : ¬ g14 = 0 := by have := N13.out; omega
    have nz' : ¬ g15 = 0 := by have := N13.out; omega
    have nz2 : ¬ 0 = g14 := by have := N13.out; omega
    have nz3 : ¬ 0 = g15 := by have := N13.out; omega
    have nn := N13.out
    have hz : 1 < w.heap.size := HH.out.1
    have KS : Hid (∀ w', Ay w7 g14 g15 w' -> Ay w7 g14 g15 w' /\ w'.cell? ⟨1, f * 9, none⟩ = some (.int .i64 (cC f).1) /\ w'.cell? ⟨1, f * 9 + 1, none⟩ = some (.int .i64 (cC f).2.1) /\ w'.cell? ⟨1, f * 9 + 2, none⟩ = some (.int .i64 (cC f).2.2)) := fun w' hw => by
      obtain ⟨⟨k0, k1, k2⟩, _, _⟩ := FRW.out w' (hw.ab A8 nn.2.2.2.2.1 nn.2.2.2.2.2)
      exact ⟨hw, k0, k1, k2⟩
    have Y0 : Ay w7 g14 g15 w7 := (Ab.refl w7).y (Ab.heap b7 R14.out) (Ab.heap b7 R15.out)
    have R13'' := hid (Ab.heap b7 R13'.out)
    have A8' := hid A8
    have B7 := hid b7
    clear A8 nn b7 R13' R14 R15 A7
    go_cut [8] from 52 to 60 (fun s8 wx => s8 = .int .i64 f /\ Ay w7 g14 g15 wx /\ wx.heap[g14]? = some (.cells #[.int .i64 (sc (-1) (cC f)).1, .int .i64 (sc (-1) (cC f)).2.1, .int .i64 (sc (-1) (cC f)).2.2] 107) /\ wx.heap[g15]? = some (.cells #[.int .i64 (cC f).1, .int .i64 (cC f).2.1, .int .i64 (cC f).2.2] 107))
    case first =>
      go_region_held3 (fun w' => Ay w7 g14 g15 w' /\ w'.cell? ⟨1, f * 9, none⟩ = some (.int .i64 (cC f).1) /\ w'.cell? ⟨1, f * 9 + 1, none⟩ = some (.int .i64 (cC f).2.1) /\ w'.cell? ⟨1, f * 9 + 2, none⟩ = some (.int .i64 (cC f).2.2)) ((refine KS.out _ ?_; (with_reducible (repeat (first | assumption | apply Ay.drew | (refine Ay.setg ?_ ne _ _) | (refine Ay.seth ?_ ne _ _) | (refine Ay.call ?_ (by assumption))))); done)) (first
        | (go_at_call 125; refine (T8.out _).mono ?_; rintro e w2 ⟨rfl, b2⟩; have y2 := Y0.drew.call b2; have y3 := y2.factsg; have y4 := y2.swap.factsg; obtain ⟨⟨_, _, _⟩, _, _, _⟩ := y3; obtain ⟨⟨_, _, _⟩, _, _, _⟩ := y4))
      have Y2 := Y0.drew.call b2
      obtain ⟨-, ⟨a1, a2, a3, hg⟩, ⟨c1, c2, c3, hh⟩⟩ := id Y2
      clear Y0 KS
      go_wp2_with fail
      go_meet
      refine ⟨rfl, (((((Y2.setg ne _ _).setg ne _ _).setg ne _ _).seth ne _ _).seth ne _ _).seth ne _ _, ?_, ?_⟩
      · exact (Below.heap_setCell _ _ _ _ ne).trans ((Below.heap_setCell _ _ _ _ ne).trans ((Below.heap_setCell _ _ _ _ ne).trans (row3 hg)))
      · exact row3 ((Below.heap_setCell _ _ _ _ ne').trans ((Below.heap_setCell _ _ _ _ ne').trans ((Below.heap_setCell _ _ _ _ ne').trans hh)))
    case rest =>
      obtain ⟨rfl, YB, z14, z15⟩ := hcut
      rw [W3.out] at z15
      have nn : g13 ≠ g14 /\ g13 ≠ g15 /\ w.heap.size <= g14 /\ w.heap.size <= g15 := by have := N13.out; omega
      clear KS Y0
      obtain ⟨-, t0, t1, t2⟩ := rowfacts (YB.heap nn.1 nn.2.1 R13''.out)
      obtain ⟨-, t3, t4, t5⟩ := rowfacts z14
      have A9 := hid (YB.ab A8'.out nn.2.2.1 nn.2.2.2)
      have R15' := hid z15
      go_wp2_with (first
        | (go_at_call 126; refine (PR'.out _).mono ?_; rintro e w8 ⟨rfl, b8⟩)
        | (go_at_call 84; refine (UN.out _ (A9.out.call b8)).mono ?_; rintro e w9 ⟨rfl, b9⟩))
      have B15 := Ab.heap b9 (Ab.heap b8 R15'.out)
      have A10 := hid ((A9.out.call b8).call b9)
      obtain ⟨U, F, hF1, hF2⟩ := cls w9
      have HF := hid hF2
      have HF1 := hid hF1
      have x0 : ∀ u, (F u).cell? ⟨g15, 0, none⟩ = some (.int .i64 bk.1) := fun u => cell_of_row _ _ 0 _ _ _ ((hF1 u).heap B15)
      have x1 : ∀ u, (F u).cell? ⟨g15, 1, none⟩ = some (.int .i64 bk.2.1) := fun u => cell_of_row _ _ 1 _ _ _ ((hF1 u).heap B15)
      have x2 : ∀ u, (F u).cell? ⟨g15, 2, none⟩ = some (.int .i64 bk.2.2) := fun u => cell_of_row _ _ 2 _ _ _ ((hF1 u).heap B15)
      have SD' := hid (fun u => SD.out (F u) (A10.out.trans (hF1 u)))
      have D := HF.out _ (Ab.refl w9).drew
      clear hF1 hF2 B15 b8 b9 UN SD PR'
      refine region_cls F (by kernel_rfl) (by kernel_rfl) D ?_
      repeat (go_big_quiet_step (first | rfl | (go_at_call 87; exact (CE.out _).mono (fun _ _ ⟨he, hw⟩ => ⟨he, _, hw⟩)) | (go_at_call 88; exact calls_cls HF HF1 (SD'.out _))))
      refine wpQuiet_nil ?_
      intro wz hwz
      obtain ⟨u, rfl⟩ := hwz
      go_wp2
      go_ret2
      exact ⟨rfl, A10.out.trans (HF1.out u)⟩
end Go.Proofs.YtdigecacmibkpaaGreatDoor

namespace Go.Proofs.YtdigecacmibkpaaGreatDoor
open Go.RowKit Cu
def frl : List Value := [.int .i64 (cC 0).1, .int .i64 (cC 0).2.1, .int .i64 (cC 0).2.2, .int .i64 (cR 0).1, .int .i64 (cR 0).2.1, .int .i64 (cR 0).2.2, .int .i64 (cU 0).1, .int .i64 (cU 0).2.1, .int .i64 (cU 0).2.2, .int .i64 (cC 1).1, .int .i64 (cC 1).2.1, .int .i64 (cC 1).2.2, .int .i64 (cR 1).1, .int .i64 (cR 1).2.1, .int .i64 (cR 1).2.2, .int .i64 (cU 1).1, .int .i64 (cU 1).2.1, .int .i64 (cU 1).2.2, .int .i64 (cC 2).1, .int .i64 (cC 2).2.1, .int .i64 (cC 2).2.2, .int .i64 (cR 2).1, .int .i64 (cR 2).2.1, .int .i64 (cR 2).2.2, .int .i64 (cU 2).1, .int .i64 (cU 2).2.1, .int .i64 (cU 2).2.2, .int .i64 (cC 3).1, .int .i64 (cC 3).2.1, .int .i64 (cC 3).2.2, .int .i64 (cR 3).1, .int .i64 (cR 3).2.1, .int .i64 (cR 3).2.2, .int .i64 (cU 3).1, .int .i64 (cU 3).2.1, .int .i64 (cU 3).2.2, .int .i64 (cC 4).1, .int .i64 (cC 4).2.1, .int .i64 (cC 4).2.2, .int .i64 (cR 4).1, .int .i64 (cR 4).2.1, .int .i64 (cR 4).2.2, .int .i64 (cU 4).1, .int .i64 (cU 4).2.1, .int .i64 (cU 4).2.2, .int .i64 (cC 5).1, .int .i64 (cC 5).2.1, .int .i64 (cC 5).2.2, .int .i64 (cR 5).1, .int .i64 (cR 5).2.1, .int .i64 (cR 5).2.2, .int .i64 (cU 5).1, .int .i64 (cU 5).2.1, .int .i64 (cU 5).2.2]
theorem fr_range {w : World} (h : Fr w) : w.rangeAt 1 0 frl := by
  intro j v hv
  rw [Nat.zero_add]
  match j, hv with
  | 0, hv => cases (show some (Value.int .i64 (cC 0).1) = some v from hv); exact (h.2 0 (by decide)).1.1
  | 1, hv => cases (show some (Value.int .i64 (cC 0).2.1) = some v from hv); exact (h.2 0 (by decide)).1.2.1
  | 2, hv => cases (show some (Value.int .i64 (cC 0).2.2) = some v from hv); exact (h.2 0 (by decide)).1.2.2
  | 3, hv => cases (show some (Value.int .i64 (cR 0).1) = some v from hv); exact (h.2 0 (by decide)).2.1.1
  | 4, hv => cases (show some (Value.int .i64 (cR 0).2.1) = some v from hv); exact (h.2 0 (by decide)).2.1.2.1
  | 5, hv => cases (show some (Value.int .i64 (cR 0).2.2) = some v from hv); exact (h.2 0 (by decide)).2.1.2.2
  | 6, hv => cases (show some (Value.int .i64 (cU 0).1) = some v from hv); exact (h.2 0 (by decide)).2.2.1
  | 7, hv => cases (show some (Value.int .i64 (cU 0).2.1) = some v from hv); exact (h.2 0 (by decide)).2.2.2.1
  | 8, hv => cases (show some (Value.int .i64 (cU 0).2.2) = some v from hv); exact (h.2 0 (by decide)).2.2.2.2
  | 9, hv => cases (show some (Value.int .i64 (cC 1).1) = some v from hv); exact (h.2 1 (by decide)).1.1
  | 10, hv => cases (show some (Value.int .i64 (cC 1).2.1) = some v from hv); exact (h.2 1 (by decide)).1.2.1
  | 11, hv => cases (show some (Value.int .i64 (cC 1).2.2) = some v from hv); exact (h.2 1 (by decide)).1.2.2
  | 12, hv => cases (show some (Value.int .i64 (cR 1).1) = some v from hv); exact (h.2 1 (by decide)).2.1.1
  | 13, hv => cases (show some (Value.int .i64 (cR 1).2.1) = some v from hv); exact (h.2 1 (by decide)).2.1.2.1
  | 14, hv => cases (show some (Value.int .i64 (cR 1).2.2) = some v from hv); exact (h.2 1 (by decide)).2.1.2.2
  | 15, hv => cases (show some (Value.int .i64 (cU 1).1) = some v from hv); exact (h.2 1 (by decide)).2.2.1
  | 16, hv => cases (show some (Value.int .i64 (cU 1).2.1) = some v from hv); exact (h.2 1 (by decide)).2.2.2.1
  | 17, hv => cases (show some (Value.int .i64 (cU 1).2.2) = some v from hv); exact (h.2 1 (by decide)).2.2.2.2
  | 18, hv => cases (show some (Value.int .i64 (cC 2).1) = some v from hv); exact (h.2 2 (by decide)).1.1
  | 19, hv => cases (show some (Value.int .i64 (cC 2).2.1) = some v from hv); exact (h.2 2 (by decide)).1.2.1
  | 20, hv => cases (show some (Value.int .i64 (cC 2).2.2) = some v from hv); exact (h.2 2 (by decide)).1.2.2
  | 21, hv => cases (show some (Value.int .i64 (cR 2).1) = some v from hv); exact (h.2 2 (by decide)).2.1.1
  | 22, hv => cases (show some (Value.int .i64 (cR 2).2.1) = some v from hv); exact (h.2 2 (by decide)).2.1.2.1
  | 23, hv => cases (show some (Value.int .i64 (cR 2).2.2) = some v from hv); exact (h.2 2 (by decide)).2.1.2.2
  | 24, hv => cases (show some (Value.int .i64 (cU 2).1) = some v from hv); exact (h.2 2 (by decide)).2.2.1
  | 25, hv => cases (show some (Value.int .i64 (cU 2).2.1) = some v from hv); exact (h.2 2 (by decide)).2.2.2.1
  | 26, hv => cases (show some (Value.int .i64 (cU 2).2.2) = some v from hv); exact (h.2 2 (by decide)).2.2.2.2
  | 27, hv => cases (show some (Value.int .i64 (cC 3).1) = some v from hv); exact (h.2 3 (by decide)).1.1
  | 28, hv => cases (show some (Value.int .i64 (cC 3).2.1) = some v from hv); exact (h.2 3 (by decide)).1.2.1
  | 29, hv => cases (show some (Value.int .i64 (cC 3).2.2) = some v from hv); exact (h.2 3 (by decide)).1.2.2
  | 30, hv => cases (show some (Value.int .i64 (cR 3).1) = some v from hv); exact (h.2 3 (by decide)).2.1.1
  | 31, hv => cases (show some (Value.int .i64 (cR 3).2.1) = some v from hv); exact (h.2 3 (by decide)).2.1.2.1
  | 32, hv => cases (show some (Value.int .i64 (cR 3).2.2) = some v from hv); exact (h.2 3 (by decide)).2.1.2.2
  | 33, hv => cases (show some (Value.int .i64 (cU 3).1) = some v from hv); exact (h.2 3 (by decide)).2.2.1
  | 34, hv => cases (show some (Value.int .i64 (cU 3).2.1) = some v from hv); exact (h.2 3 (by decide)).2.2.2.1
  | 35, hv => cases (show some (Value.int .i64 (cU 3).2.2) = some v from hv); exact (h.2 3 (by decide)).2.2.2.2
  | 36, hv => cases (show some (Value.int .i64 (cC 4).1) = some v from hv); exact (h.2 4 (by decide)).1.1
  | 37, hv => cases (show some (Value.int .i64 (cC 4).2.1) = some v from hv); exact (h.2 4 (by decide)).1.2.1
  | 38, hv => cases (show some (Value.int .i64 (cC 4).2.2) = some v from hv); exact (h.2 4 (by decide)).1.2.2
  | 39, hv => cases (show some (Value.int .i64 (cR 4).1) = some v from hv); exact (h.2 4 (by decide)).2.1.1
  | 40, hv => cases (show some (Value.int .i64 (cR 4).2.1) = some v from hv); exact (h.2 4 (by decide)).2.1.2.1
  | 41, hv => cases (show some (Value.int .i64 (cR 4).2.2) = some v from hv); exact (h.2 4 (by decide)).2.1.2.2
  | 42, hv => cases (show some (Value.int .i64 (cU 4).1) = some v from hv); exact (h.2 4 (by decide)).2.2.1
  | 43, hv => cases (show some (Value.int .i64 (cU 4).2.1) = some v from hv); exact (h.2 4 (by decide)).2.2.2.1
  | 44, hv => cases (show some (Value.int .i64 (cU 4).2.2) = some v from hv); exact (h.2 4 (by decide)).2.2.2.2
  | 45, hv => cases (show some (Value.int .i64 (cC 5).1) = some v from hv); exact (h.2 5 (by decide)).1.1
  | 46, hv => cases (show some (Value.int .i64 (cC 5).2.1) = some v from hv); exact (h.2 5 (by decide)).1.2.1
  | 47, hv => cases (show some (Value.int .i64 (cC 5).2.2) = some v from hv); exact (h.2 5 (by decide)).1.2.2
  | 48, hv => cases (show some (Value.int .i64 (cR 5).1) = some v from hv); exact (h.2 5 (by decide)).2.1.1
  | 49, hv => cases (show some (Value.int .i64 (cR 5).2.1) = some v from hv); exact (h.2 5 (by decide)).2.1.2.1
  | 50, hv => cases (show some (Value.int .i64 (cR 5).2.2) = some v from hv); exact (h.2 5 (by decide)).2.1.2.2
  | 51, hv => cases (show some (Value.int .i64 (cU 5).1) = some v from hv); exact (h.2 5 (by decide)).2.2.1
  | 52, hv => cases (show some (Value.int .i64 (cU 5).2.1) = some v from hv); exact (h.2 5 (by decide)).2.2.2.1
  | 53, hv => cases (show some (Value.int .i64 (cU 5).2.2) = some v from hv); exact (h.2 5 (by decide)).2.2.2.2
  | j + 54, hv => cases (show none = some v from hv)
def acL (F : Nat) : Nat -> List Value
  | 0 => []
  | k + 1 => acL F k ++ (if dt (cC k) (cC F) = 0 then [.int .i64 (cC k).1, .int .i64 (cC k).2.1, .int .i64 (cC k).2.2] else [])
def acN (F : Nat) : Nat -> Nat
  | 0 => 0
  | k + 1 => acN F k + (if dt (cC k) (cC F) = 0 then 1 else 0)
theorem acN_le (F k : Nat) : acN F k <= k := by
  induction k with
  | zero => simp [acN]
  | succ k ih => simp only [acN]; split <;> omega
theorem acN_six : ∀ F < 6, acN F 6 = 4 := by decide +kernel
theorem acL_get {F k : Nat} (hF : F < 6) (hk : k < 4) : (acL F 6)[k * 3]? = some (.int .i64 (cC (prp F k)).1) /\ (acL F 6)[k * 3 + 1]? = some (.int .i64 (cC (prp F k)).2.1) /\ (acL F 6)[k * 3 + 2]? = some (.int .i64 (cC (prp F k)).2.2) := by
  rcases six hF with rfl | rfl | rfl | rfl | rfl | rfl <;> rcases four hk with rfl | rfl | rfl | rfl <;> exact ⟨rfl, rfl, rfl⟩
theorem set9 {W w : World} {g : Nat} {x0 x1 x2 x3 x4 x5 x6 x7 x8 : Value} {T : TypeId} (h : Abx W g 9 T w) :
    (((((((((w.setCell ⟨g, 0, none⟩ x0).setCell ⟨g, 1, none⟩ x1).setCell ⟨g, 2, none⟩ x2).setCell ⟨g, 3, none⟩ x3).setCell ⟨g, 4, none⟩ x4).setCell ⟨g, 5, none⟩ x5).setCell ⟨g, 6, none⟩ x6).setCell ⟨g, 7, none⟩ x7).setCell ⟨g, 8, none⟩ x8).heap[g]? = some (.cells #[x0, x1, x2, x3, x4, x5, x6, x7, x8] T) := by
  obtain ⟨_, cs, h6, h⟩ := h
  obtain ⟨a, b, c, d, e, f, i, j, k, rfl⟩ : ∃ a b c d e f i j k, cs = #[a, b, c, d, e, f, i, j, k] := by
    rcases cs with ⟨l⟩
    match l, h6 with
    | [a, b, c, d, e, f, i, j, k], _ => exact ⟨a, b, c, d, e, f, i, j, k, rfl⟩
  have h10 := one_set (v := x0) (k := 0) h
  have h11 := one_set (v := x1) (k := 1) h10
  have h12 := one_set (v := x2) (k := 2) h11
  have h13 := one_set (v := x3) (k := 3) h12
  have h14 := one_set (v := x4) (k := 4) h13
  have h15 := one_set (v := x5) (k := 5) h14
  have h16 := one_set (v := x6) (k := 6) h15
  have h17 := one_set (v := x7) (k := 7) h16
  have h18 := one_set (v := x8) (k := 8) h17
  simpa using h18
theorem info_pt3 : (Tryz.prog.info? 107).map (fun i => (i.zero, i.size, i.bytes)) = some (some (.agg #[.int .i64 0, .int .i64 0, .int .i64 0]), 3, 24) := by kernel_rfl
theorem rotationOf_at (t : Nat) (w : World) (ht : t < 24) (h : Fr w) :
    Calls Tryz.prog 83 #[.int .i64 t] w fun e w' => e = .returned (.agg #[.int .i64 (rX t).1, .int .i64 (rX t).2.1, .int .i64 (rX t).2.2, .int .i64 (rY t).1, .int .i64 (rY t).2.1, .int .i64 (rY t).2.2, .int .i64 (rZ t).1, .int .i64 (rZ t).2.1, .int .i64 (rZ t).2.2]) /\ Below w.heap.size w w' := by
  obtain ⟨F, hF⟩ : ∃ F, t / 4 = F := ⟨_, rfl⟩
  obtain ⟨m, hm⟩ : ∃ m, t % 4 = m := ⟨_, rfl⟩
  have hF6 : F < 6 := by omega
  have hm4 : m < 4 := by omega
  have v1 : (t : Int).tdiv 4 = F := by rw [Int.tdiv_eq_ediv_of_nonneg (by omega)]; omega
  have v2 : (t : Int).tmod 4 = m := by rw [Int.tmod_eq_emod_of_nonneg (by omega)]; omega
  have hF' : (F : Int) < 6 := by omega
  obtain ⟨⟨k0, k1, k2⟩, _, _⟩ := h.2 F hF6
  have h0 := h.1
  have HR := hid (fr_range h)
  have eX : rX t = cC F := by unfold rX; rw [hF]
  have eY : rY t = cC (prp F m) := by unfold rY; rw [hF, hm]
  have eZ : rZ t = cx (cC F) (cC (prp F m)) := by unfold rZ; rw [eX, eY]
  rw [eX, eY, eZ]
  clear eX eY eZ
  have H := hid h
  have V1 := hid v1
  have V2 := hid v2
  clear h
  go_enter Tryz.func83, Tryz.ntmps83
  go_wp2_with (refine wpList_load_mid rfl 145 _ rfl 1 0 rfl frl _ ?_ Tryz.underlying145 rfl (by kernel_rfl) ?_; (exact fr_range (H.out.to (bl2 _ _ _))))
  generalize hCS : frl.toArray = CS
  generalize hW : World.alloc _ _ = W
  have hp : ∀ k : Nat, k < 6 -> ∀ w, (Instr.index 145 (.agg CS) (.int .i64 (k : Nat))).run Tryz.prog w = .ok (.agg #[.int .i64 (cC k).1, .int .i64 (cC k).2.1, .int .i64 (cC k).2.2, .int .i64 (cR k).1, .int .i64 (cR k).2.1, .int .i64 (cR k).2.2, .int .i64 (cU k).1, .int .i64 (cU k).2.1, .int .i64 (cU k).2.2]) w := by
    intro k hk w
    rw [<- hCS]
    rcases six hk with rfl | rfl | rfl | rfl | rfl | rfl <;> kernel_rfl
  have z1 : Hid (W.heap.size = w.heap.size + 2) := by rw [<- hW]; simp [Hid]
  have AW : Hid (Ab w W) := by rw [<- hW]; exact bl2 _ _ _
  have r2 : Hid (W.heap[w.heap.size]? = some (.cells #[.int .i64 0, .int .i64 0, .int .i64 0, .int .i64 0, .int .i64 0, .int .i64 0, .int .i64 0, .int .i64 0, .int .i64 0] 109)) := by rw [<- hW]; exact heap_alloc2_old _ _ _
  have r3 : W.heap[w.heap.size + 1]? = some (.cells #[.int .i64 (cC F).1, .int .i64 (cC F).2.1, .int .i64 (cC F).2.2] 107) := by rw [<- hW]; exact heap_alloc2_new _ _ _
  have R3 := hid r3
  have HPT := hid hp
  obtain ⟨i0, hi, hz0, hz1, hz2⟩ := info_parts info_pt3
  have HI := hid hi
  clear hW r3 k0 k1 k2 v1 v2 hCS hp hi
  go_loopw [4, 14] (fun v iv wr => ∃ k : Nat, k <= 6 /\ iv = .int .i64 (k : Nat) /\ wr.ownsRow W.heap.size 107 3 v (acN F k) (acL F k) /\ Ab W wr) (fun _ iv _ => 6 - (intOf iv).toNat)
  case atStart => exact ⟨0, by omega, rfl, World.ownsRow_nil _ _ _ _, Ab.refl _⟩
  case round =>
    obtain ⟨k, hk, rfl, hown, A⟩ := hrel
    by_cases hk6 : k < 6
    · have hk6' : (k : Int) < 6 := by omega
      have hpk := HPT.out k hk6
      have T := hid (fun u => along_ex (cC k) (cC F) u (un_C hk6).sm (un_C hF6))
      have r3 := A.heap R3.out
      obtain ⟨-, q0, q1, q2⟩ := rowfacts r3
      have hlt := lt_of_block r3
      have HO := hid hown
      have AA := hid A
      clear r3 hown A
      by_cases hd : dt (cC k) (cC F) = 0
      · rw [hd] at T
        go_wp2_with (first
          | (go_at_call 121; refine (T.out _).mono ?_; rintro e w1 ⟨rfl, rfl⟩)
          | (at_builtin; refine wpList_append_own _ rfl _ _ 146 rfl W.heap.size 107 i0 (.agg #[.int .i64 0, .int .i64 0, .int .i64 0]) 3 24 Tryz.underlying146 HI.out hz0 hz1 hz2 rfl (by decide) _ _ _ rfl ((((HO.out.alloc _).alloc _).alloc _).alloc _) ⟨wr.heap.size + 1 + 1 + 1, 0, none⟩ 1 1 [.int .i64 (cC k).1, .int .i64 (cC k).2.1, .int .i64 (cC k).2.2] rfl rfl ?c1 ?c2 ?c3 ?c4 ?c5 ?_))
        case c1 =>
          intro j u hj
          rw [Addr.add_mid, cell_of_row _ _ _ _ _ _ (heap_at _ _ _ (by simp))]
          simpa using hj
        case c2 => intro u hu; simp at hu; rcases hu with rfl | rfl | rfl <;> rfl
        case c3 => have := acN_le F k; unfold maxLen; omega
        case c4 => have := acN_le F k; omega
        case c5 => have := AA.out.size; simp; omega
        · intro v' w2 hown' hgrow _
          have e1 : acN F (k + 1) = acN F k + 1 := by simp only [acN]; rw [if_pos hd]
          have e2 : acL F (k + 1) = acL F k ++ [.int .i64 (cC k).1, .int .i64 (cC k).2.1, .int .i64 (cC k).2.2] := by simp only [acL]; rw [if_pos hd]
          rw [<- e1, <- e2] at hown'
          have A2 : Ab W w2 := Below.grown (((((AA.out.alloc _).alloc _).alloc _).alloc _)) hgrow (by have := AA.out.size; simp; omega) (fun g hg => (HO.out.lt g hg).1)
          have HO' := hid hown'
          have A2' := hid A2
          clear hown' hgrow A2 e1 e2
          go_wp2
          go_roundw
          case rel => exact ⟨k + 1, by omega, by simp, HO'.out, A2'.out⟩
          case measure => simp [intOf]; omega
      · have hd' : (dt (cC k) (cC F) == 0) = false := by simpa using hd
        go_wp2_with (go_at_call 121; refine (T.out _).mono ?_; rintro e w1 ⟨rfl, rfl⟩)
        have e1 : acN F (k + 1) = acN F k := by simp only [acN]; rw [if_neg hd]; rfl
        have e2 : acL F (k + 1) = acL F k := by simp only [acL]; rw [if_neg hd]; simp
        go_roundw
        case rel => exact ⟨k + 1, by omega, by simp, by rw [e1, e2]; exact ((HO.out.alloc _).alloc _).alloc _, ((AA.out.alloc _).alloc _).alloc _⟩
        case measure => simp [intOf]; omega
    · obtain rfl : k = 6 := by omega
      have hown6 := hown
      rw [acN_six F hF6] at hown6
      obtain ⟨g, cap, rfl, hcl⟩ : ∃ g cap, u4 = .slice (some ⟨g, 0, none⟩) 4 cap /\ True := by
        rcases hown6.2 with ⟨_, h4⟩ | ⟨g, cap, cur, hv, _⟩
        · omega
        · exact ⟨g, cap, hv, trivial⟩
      obtain ⟨l0, l1, l2⟩ := acL_get hF6 hm4
      have y0 : wr.cell? ⟨g, m * 3, none⟩ = some (.int .i64 (cC (prp F m)).1) := (hown6.cellAt _ (by omega)).trans l0
      have y1 : wr.cell? ⟨g, m * 3 + 1, none⟩ = some (.int .i64 (cC (prp F m)).2.1) := (hown6.cellAt _ (by omega)).trans l1
      have y2 : wr.cell? ⟨g, m * 3 + 2, none⟩ = some (.int .i64 (cC (prp F m)).2.2) := (hown6.cellAt _ (by omega)).trans l2
      have v2 : (t : Int) % 4 = m := by omega
      have m4 : (m : Int) < 4 := by omega
      have m0 : (0 : Int) <= m := by omega
      have X := hid (fun u => cuCross_at (cC F) (cC (prp F m)) u (un_C hF6) (un_C (prp_lt F hF6 m hm4)))
      have AA := hid A
      clear hown hown6 l0 l1 l2 A hk6 hk
      go_upto_region 10 with fail
      generalize hW9 : World.alloc wr _ = W9
      obtain ⟨g7, hg7⟩ : ∃ g, wr.heap.size = g := ⟨_, rfl⟩
      have A9 : Ab W W9 := by rw [<- hW9]; exact AA.out.alloc _
      have r7 : W9.heap[g7]? = some (.cells #[.int .i64 (cC (prp F m)).1, .int .i64 (cC (prp F m)).2.1, .int .i64 (cC (prp F m)).2.2] 107) := by rw [<- hW9, <- hg7]; exact heap_alloc_new _ _
      have hge : Hid (W.heap.size <= g7) := by rw [<- hg7]; exact AA.out.size
      rw [hg7]
      clear hW9 hg7 y0 y1 y2 v2
      have KS : Hid (∀ w', Abx W9 w.heap.size 9 109 w' -> Abx W9 w.heap.size 9 109 w' /\ w'.cell? ⟨w.heap.size + 1, 0, none⟩ = some (.int .i64 (cC F).1) /\ w'.cell? ⟨w.heap.size + 1, 1, none⟩ = some (.int .i64 (cC F).2.1) /\ w'.cell? ⟨w.heap.size + 1, 2, none⟩ = some (.int .i64 (cC F).2.2) /\ w'.cell? ⟨g7, 0, none⟩ = some (.int .i64 (cC (prp F m)).1) /\ w'.cell? ⟨g7, 1, none⟩ = some (.int .i64 (cC (prp F m)).2.1) /\ w'.cell? ⟨g7, 2, none⟩ = some (.int .i64 (cC (prp F m)).2.2) /\ w'.frozen? ⟨w.heap.size, 0, none⟩ = false /\ w'.frozen? ⟨w.heap.size, 1, none⟩ = false /\ w'.frozen? ⟨w.heap.size, 2, none⟩ = false /\ w'.frozen? ⟨w.heap.size, 3, none⟩ = false /\ w'.frozen? ⟨w.heap.size, 4, none⟩ = false /\ w'.frozen? ⟨w.heap.size, 5, none⟩ = false /\ w'.frozen? ⟨w.heap.size, 6, none⟩ = false /\ w'.frozen? ⟨w.heap.size, 7, none⟩ = false /\ w'.frozen? ⟨w.heap.size, 8, none⟩ = false /\ w'.cell? ⟨w.heap.size, 0, none⟩ = some (rv w' w.heap.size 0) /\ w'.cell? ⟨w.heap.size, 1, none⟩ = some (rv w' w.heap.size 1) /\ w'.cell? ⟨w.heap.size, 2, none⟩ = some (rv w' w.heap.size 2) /\ w'.cell? ⟨w.heap.size, 3, none⟩ = some (rv w' w.heap.size 3) /\ w'.cell? ⟨w.heap.size, 4, none⟩ = some (rv w' w.heap.size 4) /\ w'.cell? ⟨w.heap.size, 5, none⟩ = some (rv w' w.heap.size 5) /\ w'.cell? ⟨w.heap.size, 6, none⟩ = some (rv w' w.heap.size 6) /\ w'.cell? ⟨w.heap.size, 7, none⟩ = some (rv w' w.heap.size 7) /\ w'.cell? ⟨w.heap.size, 8, none⟩ = some (rv w' w.heap.size 8)) := by
        intro w' hw
        have hz := z1.out
        have hge := hge.out
        obtain ⟨-, a0, a1, a2⟩ := rowfacts (hw.heap (by omega) (A9.heap R3.out))
        obtain ⟨-, b0, b1, b2⟩ := rowfacts (hw.heap (by omega) r7)
        exact ⟨hw, a0, a1, a2, b0, b1, b2, hw.free 0, hw.free 1, hw.free 2, hw.free 3, hw.free 4, hw.free 5, hw.free 6, hw.free 7, hw.free 8, hw.some (by omega), hw.some (by omega), hw.some (by omega), hw.some (by omega), hw.some (by omega), hw.some (by omega), hw.some (by omega), hw.some (by omega), hw.some (by omega)⟩
      have A0' : Abx W9 w.heap.size 9 109 W9 := (Ab.refl W9).x rfl (A9.heap r2.out)
      have A9' := hid A9
      clear r7 R3 r2 A9
      go_region_held3 (fun w' => Abx W9 w.heap.size 9 109 w' /\ w'.cell? ⟨w.heap.size + 1, 0, none⟩ = some (.int .i64 (cC F).1) /\ w'.cell? ⟨w.heap.size + 1, 1, none⟩ = some (.int .i64 (cC F).2.1) /\ w'.cell? ⟨w.heap.size + 1, 2, none⟩ = some (.int .i64 (cC F).2.2) /\ w'.cell? ⟨g7, 0, none⟩ = some (.int .i64 (cC (prp F m)).1) /\ w'.cell? ⟨g7, 1, none⟩ = some (.int .i64 (cC (prp F m)).2.1) /\ w'.cell? ⟨g7, 2, none⟩ = some (.int .i64 (cC (prp F m)).2.2) /\ w'.frozen? ⟨w.heap.size, 0, none⟩ = false /\ w'.frozen? ⟨w.heap.size, 1, none⟩ = false /\ w'.frozen? ⟨w.heap.size, 2, none⟩ = false /\ w'.frozen? ⟨w.heap.size, 3, none⟩ = false /\ w'.frozen? ⟨w.heap.size, 4, none⟩ = false /\ w'.frozen? ⟨w.heap.size, 5, none⟩ = false /\ w'.frozen? ⟨w.heap.size, 6, none⟩ = false /\ w'.frozen? ⟨w.heap.size, 7, none⟩ = false /\ w'.frozen? ⟨w.heap.size, 8, none⟩ = false /\ w'.cell? ⟨w.heap.size, 0, none⟩ = some (rv w' w.heap.size 0) /\ w'.cell? ⟨w.heap.size, 1, none⟩ = some (rv w' w.heap.size 1) /\ w'.cell? ⟨w.heap.size, 2, none⟩ = some (rv w' w.heap.size 2) /\ w'.cell? ⟨w.heap.size, 3, none⟩ = some (rv w' w.heap.size 3) /\ w'.cell? ⟨w.heap.size, 4, none⟩ = some (rv w' w.heap.size 4) /\ w'.cell? ⟨w.heap.size, 5, none⟩ = some (rv w' w.heap.size 5) /\ w'.cell? ⟨w.heap.size, 6, none⟩ = some (rv w' w.heap.size 6) /\ w'.cell? ⟨w.heap.size, 7, none⟩ = some (rv w' w.heap.size 7) /\ w'.cell? ⟨w.heap.size, 8, none⟩ = some (rv w' w.heap.size 8)) ((refine KS.out _ ?_; (with_reducible (repeat (first | assumption | apply Abx.drew | apply Abx.set | (refine Abx.call ?_ (by assumption))))); done)) ((go_at_call 122; refine (X.out _).mono ?_; rintro e w3 ⟨rfl, b3⟩))
      have A2 := A0'.drew.call b3
      clear KS A0' X
      go_wp2
      refine bodyPost_ret ?_ rfl ⟨rfl, ?_⟩
      · exact results_cell_row Tryz.results83 _ _ w.heap.size _ _ (0, 0) _ rfl (set9 A2) Tryz.underlying109 rfl (by kernel_rfl)
      · exact (((((((((A2.set 0 _).set 1 _).set 2 _).set 3 _).set 4 _).set 5 _).set 6 _).set 7 _).set 8 _).ab (AW.out.trans A9'.out) (Nat.le_refl _)
end Go.Proofs.YtdigecacmibkpaaGreatDoor

namespace Go.Proofs.YtdigecacmibkpaaGreatDoor
open Go.RowKit Cu
def app (X Y Z p : P3) : P3 := pl (pl (sc p.1 X) (sc p.2.1 Y)) (sc p.2.2 Z)
theorem of_at (X Y Z p : P3) (w : World) (hX : Un X) (hY : Un Y) (hZ : Un Z) (hp : (-1000 <= p.1 /\ p.1 <= 1000) /\ (-1000 <= p.2.1 /\ p.2.1 <= 1000) /\ (-1000 <= p.2.2 /\ p.2.2 <= 1000)) :
    Calls Tryz.prog 85 #[.agg #[.int .i64 X.1, .int .i64 X.2.1, .int .i64 X.2.2, .int .i64 Y.1, .int .i64 Y.2.1, .int .i64 Y.2.2, .int .i64 Z.1, .int .i64 Z.2.1, .int .i64 Z.2.2], .agg #[.int .i64 p.1, .int .i64 p.2.1, .int .i64 p.2.2]] w fun e w' => e = .returned (.agg #[.int .i64 (app X Y Z p).1, .int .i64 (app X Y Z p).2.1, .int .i64 (app X Y Z p).2.2]) /\ Below w.heap.size w w' := by
  have S1 : Sm (sc p.1 X) := sc_sm hX (by omega)
  have S2 : Sm (sc p.2.1 Y) := sc_sm hY (by omega)
  have S3 : Sm (sc p.2.2 Z) := sc_sm hZ (by omega)
  have S4 : Sm (pl (sc p.1 X) (sc p.2.1 Y)) := by
    have a1 := (mul_un hX.1 1000 hp.1).1
    have a2 := (mul_un hX.2.1 1000 hp.1).1
    have a3 := (mul_un hX.2.2 1000 hp.1).1
    have b1 := (mul_un hY.1 1000 hp.2.1).1
    have b2 := (mul_un hY.2.1 1000 hp.2.1).1
    have b3 := (mul_un hY.2.2 1000 hp.2.1).1
    simp only [Sm, pl, sc]
    omega
  have T1 := hid (fun u => times_at X p.1 u S1)
  have T2 := hid (fun u => times_at Y p.2.1 u S2)
  have T3 := hid (fun u => times_at Z p.2.2 u S3)
  have Q1 := hid (fun u => plus_at (sc p.1 X) (sc p.2.1 Y) u S1 S2)
  have Q2 := hid (fun u => plus_at (pl (sc p.1 X) (sc p.2.1 Y)) (sc p.2.2 Z) u S4 S3)
  clear S1 S2 S3 S4 hX hY hZ hp
  go_enter Tryz.func85, Tryz.ntmps85
  go_upto_region 1 with fail
  generalize hW : World.alloc _ _ = W
  have AW : Hid (Ab w W) := by rw [<- hW]; exact bl3 _ _ _ _
  have r2 : W.heap[w.heap.size]? = some (.cells #[.int .i64 X.1, .int .i64 X.2.1, .int .i64 X.2.2, .int .i64 Y.1, .int .i64 Y.2.1, .int .i64 Y.2.2, .int .i64 Z.1, .int .i64 Z.2.1, .int .i64 Z.2.2] 109) := by
    rw [<- hW, Below.heap_alloc _ _ _ (by simp; omega)]; exact heap_alloc2_old _ _ _
  have r3 : W.heap[w.heap.size + 1]? = some (.cells #[.int .i64 p.1, .int .i64 p.2.1, .int .i64 p.2.2] 107) := by
    rw [<- hW, Below.heap_alloc _ _ _ (by simp)]; exact heap_alloc2_new _ _ _
  have r4 : W.heap[w.heap.size + 1 + 1]? = some (.cells #[.int .i64 0, .int .i64 0, .int .i64 0] 107) := by rw [<- hW]; exact heap_alloc3_new _ _ _ _
  have KS : Hid (∀ w', Abx W (w.heap.size + 1 + 1) 3 107 w' -> Abx W (w.heap.size + 1 + 1) 3 107 w' /\ w'.cell? ⟨w.heap.size, 0, none⟩ = some (.int .i64 X.1) /\ w'.cell? ⟨w.heap.size, 1, none⟩ = some (.int .i64 X.2.1) /\ w'.cell? ⟨w.heap.size, 2, none⟩ = some (.int .i64 X.2.2) /\ w'.cell? ⟨w.heap.size, 3, none⟩ = some (.int .i64 Y.1) /\ w'.cell? ⟨w.heap.size, 4, none⟩ = some (.int .i64 Y.2.1) /\ w'.cell? ⟨w.heap.size, 5, none⟩ = some (.int .i64 Y.2.2) /\ w'.cell? ⟨w.heap.size, 6, none⟩ = some (.int .i64 Z.1) /\ w'.cell? ⟨w.heap.size, 7, none⟩ = some (.int .i64 Z.2.1) /\ w'.cell? ⟨w.heap.size, 8, none⟩ = some (.int .i64 Z.2.2) /\ w'.cell? ⟨w.heap.size + 1, 0, none⟩ = some (.int .i64 p.1) /\ w'.cell? ⟨w.heap.size + 1, 1, none⟩ = some (.int .i64 p.2.1) /\ w'.cell? ⟨w.heap.size + 1, 2, none⟩ = some (.int .i64 p.2.2) /\ w'.frozen? ⟨w.heap.size + 1 + 1, 0, none⟩ = false /\ w'.frozen? ⟨w.heap.size + 1 + 1, 1, none⟩ = false /\ w'.frozen? ⟨w.heap.size + 1 + 1, 2, none⟩ = false /\ w'.cell? ⟨w.heap.size + 1 + 1, 0, none⟩ = some (rv w' (w.heap.size + 1 + 1) 0) /\ w'.cell? ⟨w.heap.size + 1 + 1, 1, none⟩ = some (rv w' (w.heap.size + 1 + 1) 1) /\ w'.cell? ⟨w.heap.size + 1 + 1, 2, none⟩ = some (rv w' (w.heap.size + 1 + 1) 2)) := by
    intro w' hw
    have q2 := hw.heap (by omega) r2
    have q3 := hw.heap (by omega) r3
    exact ⟨hw, cell_of_row _ _ 0 _ _ _ q2, cell_of_row _ _ 1 _ _ _ q2, cell_of_row _ _ 2 _ _ _ q2, cell_of_row _ _ 3 _ _ _ q2, cell_of_row _ _ 4 _ _ _ q2, cell_of_row _ _ 5 _ _ _ q2, cell_of_row _ _ 6 _ _ _ q2, cell_of_row _ _ 7 _ _ _ q2, cell_of_row _ _ 8 _ _ _ q2, cell_of_row _ _ 0 _ _ _ q3, cell_of_row _ _ 1 _ _ _ q3, cell_of_row _ _ 2 _ _ _ q3, hw.free 0, hw.free 1, hw.free 2, hw.some (by omega), hw.some (by omega), hw.some (by omega)⟩
  have A0 : Abx W (w.heap.size + 1 + 1) 3 107 W := (Ab.refl W).x rfl r4
  clear r2 r3 r4 hW
  go_region_held3 (fun w' => Abx W (w.heap.size + 1 + 1) 3 107 w' /\ w'.cell? ⟨w.heap.size, 0, none⟩ = some (.int .i64 X.1) /\ w'.cell? ⟨w.heap.size, 1, none⟩ = some (.int .i64 X.2.1) /\ w'.cell? ⟨w.heap.size, 2, none⟩ = some (.int .i64 X.2.2) /\ w'.cell? ⟨w.heap.size, 3, none⟩ = some (.int .i64 Y.1) /\ w'.cell? ⟨w.heap.size, 4, none⟩ = some (.int .i64 Y.2.1) /\ w'.cell? ⟨w.heap.size, 5, none⟩ = some (.int .i64 Y.2.2) /\ w'.cell? ⟨w.heap.size, 6, none⟩ = some (.int .i64 Z.1) /\ w'.cell? ⟨w.heap.size, 7, none⟩ = some (.int .i64 Z.2.1) /\ w'.cell? ⟨w.heap.size, 8, none⟩ = some (.int .i64 Z.2.2) /\ w'.cell? ⟨w.heap.size + 1, 0, none⟩ = some (.int .i64 p.1) /\ w'.cell? ⟨w.heap.size + 1, 1, none⟩ = some (.int .i64 p.2.1) /\ w'.cell? ⟨w.heap.size + 1, 2, none⟩ = some (.int .i64 p.2.2) /\ w'.frozen? ⟨w.heap.size + 1 + 1, 0, none⟩ = false /\ w'.frozen? ⟨w.heap.size + 1 + 1, 1, none⟩ = false /\ w'.frozen? ⟨w.heap.size + 1 + 1, 2, none⟩ = false /\ w'.cell? ⟨w.heap.size + 1 + 1, 0, none⟩ = some (rv w' (w.heap.size + 1 + 1) 0) /\ w'.cell? ⟨w.heap.size + 1 + 1, 1, none⟩ = some (rv w' (w.heap.size + 1 + 1) 1) /\ w'.cell? ⟨w.heap.size + 1 + 1, 2, none⟩ = some (rv w' (w.heap.size + 1 + 1) 2)) ((refine KS.out _ ?_; (with_reducible (repeat (first | assumption | apply Abx.drew | apply Abx.set | (refine Abx.call ?_ (by assumption))))); done)) (first
    | (go_at_call_of 125 X; refine (T1.out _).mono ?_; rintro e w1 ⟨rfl, b1⟩)
    | (go_at_call_of 125 Y; refine (T2.out _).mono ?_; rintro e w2 ⟨rfl, b2⟩)
    | (go_at_call_of 125 Z; refine (T3.out _).mono ?_; rintro e w4 ⟨rfl, b4⟩)
    | (go_at_call_of 126 Z; refine (Q2.out _).mono ?_; rintro e w5 ⟨rfl, b5⟩)
    | (go_at_call 126; refine (Q1.out _).mono ?_; rintro e w3 ⟨rfl, b3⟩))
  have A2 := ((((A0.drew.call b1).call b2).call b3).call b4).call b5
  clear KS A0
  go_wp2
  refine bodyPost_ret ?_ rfl ⟨rfl, ?_⟩
  · exact results_cell_row Tryz.results85 _ _ (w.heap.size + 1 + 1) _ _ (0, 0) _ rfl (set3 A2) Tryz.underlying107 rfl (by kernel_rfl)
  · exact (((A2.set 0 _).set 1 _).set 2 _).ab AW.out (by omega)
theorem Un.le {p : P3} (h : Un p) : (-1000 <= p.1 /\ p.1 <= 1000) /\ (-1000 <= p.2.1 /\ p.2.1 <= 1000) /\ (-1000 <= p.2.2 /\ p.2.2 <= 1000) := by unfold Un at h; omega
end Go.Proofs.YtdigecacmibkpaaGreatDoor

namespace Go.Proofs.YtdigecacmibkpaaGreatDoor
open Go.RowKit Cu
theorem un_rX : ∀ t < 24, ((-1 <= (rX t).1 /\ (rX t).1 <= 1) /\ (-1 <= (rX t).2.1 /\ (rX t).2.1 <= 1) /\ (-1 <= (rX t).2.2 /\ (rX t).2.2 <= 1)) := by decide +kernel
theorem un_rY : ∀ t < 24, ((-1 <= (rY t).1 /\ (rY t).1 <= 1) /\ (-1 <= (rY t).2.1 /\ (rY t).2.1 <= 1) /\ (-1 <= (rY t).2.2 /\ (rY t).2.2 <= 1)) := by decide +kernel
theorem un_rZ : ∀ t < 24, ((-1 <= (rZ t).1 /\ (rZ t).1 <= 1) /\ (-1 <= (rZ t).2.1 /\ (rZ t).2.1 <= 1) /\ (-1 <= (rZ t).2.2 /\ (rZ t).2.2 <= 1)) := by decide +kernel
theorem turn_go (n c f i j t f2 i2 j2 q : Nat) (p r o : P3) (w : World) (hn : 1 <= n /\ n <= 32) (hf : f < 6) (hi : i < n) (hj : j < n) (ht : t < 24) (hf2 : f2 < 6) (hi2 : i2 < n) (hj2 : j2 < n) (hq : q < 4) (h : Fr w)
    (PL : Hid (∀ w, Calls Tryz.prog 81 #[.int .i64 n, .int .i64 c] w fun e w' => e = .returned (.tuple #[.int .i64 f, .int .i64 i, .int .i64 j, .bool true]) /\ ∃ k, w' = w.drewN k))
    (hp : md n f i j = p) (hr : md n f2 i2 j2 = r) (hpr : ro t p = r) (ho : wy f2 q = o) (hro : ro t (cR f) = o) :
    Calls Tryz.prog 50 #[.int .i64 n, .int .i64 t, .int .i64 c] w fun e w' => e = .returned (.tuple #[.int .i64 (cN n f2 i2 j2), .int .i64 q]) /\ Below w.heap.size w w' := by
  have CT : Hid (∀ w, Calls Tryz.prog 82 #[.int .i64 t, .int .i64 24] w fun e w' => e = .returned (.bool true) /\ w' = w) := fun w => by
    have := counts_at t 24 w
    rwa [show inR t 24 = true by rw [inR_iff]; omega] at this
  have RO := hid (fun (u : World) (hu : Ab w u) => rotationOf_at t u ht (h.to hu))
  have MI : Hid (∀ u, Ab w u -> Calls Tryz.prog 86 #[.int .i64 n, .int .i64 f, .int .i64 i, .int .i64 j] u fun e w' => e = .returned (.agg #[.int .i64 p.1, .int .i64 p.2.1, .int .i64 p.2.2]) /\ Below u.heap.size u w') := fun u hu => by
    rw [<- hp]; exact middle_at n f i j u (by omega) hf (by omega) (by omega) (h.to hu)
  have hm := md_le hf hi hj hn.2
  rw [hp] at hm
  have OF : Hid (∀ u, Calls Tryz.prog 85 #[.agg #[.int .i64 (rX t).1, .int .i64 (rX t).2.1, .int .i64 (rX t).2.2, .int .i64 (rY t).1, .int .i64 (rY t).2.1, .int .i64 (rY t).2.2, .int .i64 (rZ t).1, .int .i64 (rZ t).2.1, .int .i64 (rZ t).2.2], .agg #[.int .i64 p.1, .int .i64 p.2.1, .int .i64 p.2.2]] u fun e w' => e = .returned (.agg #[.int .i64 r.1, .int .i64 r.2.1, .int .i64 r.2.2]) /\ Below u.heap.size u w') := fun u => by
    rw [<- hpr]; exact of_at (rX t) (rY t) (rZ t) p u (un_rX t ht) (un_rY t ht) (un_rZ t ht) (by omega)
  have UN : Hid (∀ u, Ab w u -> Calls Tryz.prog 84 #[.int .i64 n, .agg #[.int .i64 r.1, .int .i64 r.2.1, .int .i64 r.2.2]] u fun e w' => e = .returned (.tuple #[.int .i64 f2, .int .i64 i2, .int .i64 j2]) /\ Below u.heap.size u w') := fun u hu => under_at n f2 i2 j2 r u hn hf2 hi2 hj2 hr (h.to hu)
  have CE := hid (fun u => cell_at n f2 i2 j2 u)
  have WY : Hid (∀ u, Ab w u -> Calls Tryz.prog 89 #[.int .i64 f, .int .i64 0] u fun e w' => e = .returned (.agg #[.int .i64 (cR f).1, .int .i64 (cR f).2.1, .int .i64 (cR f).2.2]) /\ Below u.heap.size u w') := fun u hu => way_at f 0 u hf (by omega) (h.to hu)
  have OE : Hid (∀ u, Calls Tryz.prog 85 #[.agg #[.int .i64 (rX t).1, .int .i64 (rX t).2.1, .int .i64 (rX t).2.2, .int .i64 (rY t).1, .int .i64 (rY t).2.1, .int .i64 (rY t).2.2, .int .i64 (rZ t).1, .int .i64 (rZ t).2.1, .int .i64 (rZ t).2.2], .agg #[.int .i64 (cR f).1, .int .i64 (cR f).2.1, .int .i64 (cR f).2.2]] u fun e w' => e = .returned (.agg #[.int .i64 o.1, .int .i64 o.2.1, .int .i64 o.2.2]) /\ Below u.heap.size u w') := fun u => by
    rw [<- hro]; exact of_at (rX t) (rY t) (rZ t) (cR f) u (un_rX t ht) (un_rY t ht) (un_rZ t ht) (un_R hf).le
  have SD : Hid (∀ u, Ab w u -> Calls Tryz.prog 88 #[.int .i64 f2, .agg #[.int .i64 o.1, .int .i64 o.2.1, .int .i64 o.2.2]] u fun e w' => e = .returned (.int .i64 q) /\ Below u.heap.size u w') := fun u hu => sideOf_at f2 q o u hf2 hq ho (h.to hu)
  clear hm hp hr hpr ho hro h
  go_enter Tryz.func50, Tryz.ntmps50
  go_upto_region 4 with (first
    | (go_at_call 81; refine (PL.out _).mono ?_; rintro e w' ⟨rfl, k, rfl⟩)
    | (go_at_call 82; refine (CT.out _).mono ?_; rintro e w' ⟨rfl, rfl⟩))
  have A1 : Ab w (w.drewN k) := (Ab.refl w).drewN k
  go_wp2_with fail
  refine (RO.out _ A1).mono ?_
  rintro e w1 ⟨rfl, b1⟩
  have A2 := hid (A1.call b1)
  clear b1 A1 PL CT RO
  go_upto_region 5 with fail
  generalize hW : World.alloc w1 _ = W
  obtain ⟨g, hg⟩ : ∃ g, w1.heap.size = g := ⟨_, rfl⟩
  have r12 : W.heap[g]? = some (.cells #[.int .i64 (rX t).1, .int .i64 (rX t).2.1, .int .i64 (rX t).2.2, .int .i64 (rY t).1, .int .i64 (rY t).2.1, .int .i64 (rY t).2.2, .int .i64 (rZ t).1, .int .i64 (rZ t).2.1, .int .i64 (rZ t).2.2] 109) := by rw [<- hW, <- hg]; exact heap_alloc_new _ _
  have A3 : Ab w W := by rw [<- hW]; exact A2.out.alloc _
  rw [hg]
  clear hW hg A2
  obtain ⟨U, F, hF1, hF2⟩ := cls W
  have HF := hid hF2
  have HF1 := hid hF1
  have x0 : ∀ u, (F u).cell? ⟨g, 0, none⟩ = some (.int .i64 (rX t).1) := fun u => cell_of_row _ _ 0 _ _ _ ((hF1 u).heap r12)
  have x1 : ∀ u, (F u).cell? ⟨g, 1, none⟩ = some (.int .i64 (rX t).2.1) := fun u => cell_of_row _ _ 1 _ _ _ ((hF1 u).heap r12)
  have x2 : ∀ u, (F u).cell? ⟨g, 2, none⟩ = some (.int .i64 (rX t).2.2) := fun u => cell_of_row _ _ 2 _ _ _ ((hF1 u).heap r12)
  have x3 : ∀ u, (F u).cell? ⟨g, 3, none⟩ = some (.int .i64 (rY t).1) := fun u => cell_of_row _ _ 3 _ _ _ ((hF1 u).heap r12)
  have x4 : ∀ u, (F u).cell? ⟨g, 4, none⟩ = some (.int .i64 (rY t).2.1) := fun u => cell_of_row _ _ 4 _ _ _ ((hF1 u).heap r12)
  have x5 : ∀ u, (F u).cell? ⟨g, 5, none⟩ = some (.int .i64 (rY t).2.2) := fun u => cell_of_row _ _ 5 _ _ _ ((hF1 u).heap r12)
  have x6 : ∀ u, (F u).cell? ⟨g, 6, none⟩ = some (.int .i64 (rZ t).1) := fun u => cell_of_row _ _ 6 _ _ _ ((hF1 u).heap r12)
  have x7 : ∀ u, (F u).cell? ⟨g, 7, none⟩ = some (.int .i64 (rZ t).2.1) := fun u => cell_of_row _ _ 7 _ _ _ ((hF1 u).heap r12)
  have x8 : ∀ u, (F u).cell? ⟨g, 8, none⟩ = some (.int .i64 (rZ t).2.2) := fun u => cell_of_row _ _ 8 _ _ _ ((hF1 u).heap r12)
  have MI' := hid (fun u => MI.out (F u) (A3.trans (hF1 u)))
  have UN' := hid (fun u => UN.out (F u) (A3.trans (hF1 u)))
  have WY' := hid (fun u => WY.out (F u) (A3.trans (hF1 u)))
  have SD' := hid (fun u => SD.out (F u) (A3.trans (hF1 u)))
  have D := HF.out _ (Ab.refl W).drew
  have D2 := hid (fun u => HF.out _ (hF1 u).drew)
  have A3' := hid A3
  clear hF1 hF2 r12 MI UN WY SD A3
  refine region_cls F (by kernel_rfl) (by kernel_rfl) D ?_
  repeat (go_big_quiet_step (first
    | rfl
    | (go_at_call 86; exact calls_cls HF HF1 (MI'.out _))
    | (go_at_call 85; exact calls_cls HF HF1 (OF.out _))
    | (go_at_call 84; exact calls_cls HF HF1 (UN'.out _))))
  refine wpQuiet_nil ?_
  intro wz hwz
  obtain ⟨u, rfl⟩ := hwz
  clear MI' OF UN'
  go_wp2_with fail
  refine region_cls F (by kernel_rfl) (by kernel_rfl) (D2.out u) ?_
  repeat (go_big_quiet_step (first
    | rfl
    | (go_at_call 87; exact (CE.out _).mono (fun _ _ ⟨he, hw⟩ => ⟨he, _, hw⟩))
    | (go_at_call 89; exact calls_cls HF HF1 (WY'.out _))
    | (go_at_call 85; exact calls_cls HF HF1 (OE.out _))
    | (go_at_call 88; exact calls_cls HF HF1 (SD'.out _))))
  refine wpQuiet_nil ?_
  intro wz hwz
  obtain ⟨v, rfl⟩ := hwz
  go_wp2
  go_ret2
  exact ⟨rfl, A3'.out.trans (HF1.out v)⟩
end Go.Proofs.YtdigecacmibkpaaGreatDoor
