/-
  Rains fall just in their steps: the walk (layer 18).
-/
import Derived.Test.YthcgbjkbnbeobaaRnC
namespace Go.Proofs.Ythcgbjkbnbeobaa
open Go.RowKit Go.Deep
namespace Rn
open Sh
/-- a rain's four cells -/
def cl4 (r : Int × Int × Int × Int) : List Value := [.int .i64 r.1, .int .i64 r.2.1, .int .i64 r.2.2.1, .int .i64 r.2.2.2]
/-- a list of rains of the call's own -/
def OwnR (B : Nat) (v : Value) (l : List (Int × Int × Int × Int)) (w : World) : Prop := w.ownsRow B 29 4 v l.length (l.flatMap cl4)
theorem cl4_at : ∀ (l : List (Int × Int × Int × Int)) (k j : Nat), k < l.length → j < 4 → (l.flatMap cl4)[k * 4 + j]? = (cl4 (l.getD k (0, 0, 0, 0)))[j]?
  | [], k, _, hk, _ => absurd hk (Nat.not_lt_zero k)
  | r :: l, 0, j, _, hj => by
    rw [List.flatMap_cons, List.getElem?_append_left (by show _ < 4; omega)]
    simp [List.getD]
  | r :: l, k + 1, j, hk, hj => by
    rw [List.flatMap_cons, List.getElem?_append_right (by show 4 ≤ _; omega)]
    have e : (k + 1) * 4 + j - (cl4 r).length = k * 4 + j := by show (k + 1) * 4 + j - 4 = _; omega
    rw [e, cl4_at l k j (by simpa using hk) hj]
    simp [List.getD]
theorem OwnR.in {B : Nat} {v : Value} {l : List (Int × Int × Int × Int)} {w : World} (h : OwnR B v l w) (h4 : ∀ r ∈ l, W4 r) : ∃ a0 cap, v = .slice a0 l.length cap ∧ IsRn w a0 l.length (fun j => l.getD j (0, 0, 0, 0)) := by
  rcases h.2 with ⟨rfl, h0⟩ | ⟨g, cap, cur, rfl, hb, hg, h1, h2, h3, h5⟩
  · exact ⟨none, 0, by rw [h0], fun k hk => by omega⟩
  · refine ⟨some ⟨g, 0, none⟩, cap, rfl, fun k hk => ?_⟩
    have hx : l.getD k (0, 0, 0, 0) = l[k] := by simp [List.getD, hk]
    have cc : ∀ j, j < 4 → ∀ u, (cl4 (l.getD k (0, 0, 0, 0)))[j]? = some u → w.cell? ⟨g, k * 4 + j, none⟩ = some u := fun j hj u hu => by
      have e := h.cells (g := g) rfl (k * 4 + j) u (by rw [cl4_at l k j hk hj]; exact hu)
      rw [Sh.add_off, Nat.zero_add] at e
      exact e
    refine ⟨by dsimp only; rw [hx]; exact h4 _ (List.getElem_mem _), g, 0, rfl, lt_of_block hg, ?_, ?_, ?_, ?_⟩
    · rw [Nat.zero_add]; exact cc 0 (by omega) _ rfl
    · rw [Nat.zero_add]; exact cc 1 (by omega) _ rfl
    · rw [Nat.zero_add]; exact cc 2 (by omega) _ rfl
    · rw [Nat.zero_add]; exact cc 3 (by omega) _ rfl
theorem OwnR.to {B : Nat} {v : Value} {l : List (Int × Int × Int × Int)} {w w' : World} (h : OwnR B v l w) (hb : Ab w w') : OwnR B v l w' := by
  refine ⟨h.1, ?_⟩
  rcases h.2 with h0 | ⟨g, cap, cur, e, hb', hg, h1, h2, h3, h4⟩
  · exact .inl h0
  · exact .inr ⟨g, cap, cur, e, hb', hb.heap hg, h1, h2, h3, h4⟩
theorem OwnR.form {B : Nat} {v : Value} {l : List (Int × Int × Int × Int)} {w : World} (h : OwnR B v l w) : ∃ a0 cap, v = .slice a0 l.length cap := by
  rcases h.2 with ⟨rfl, h0⟩ | ⟨g, cap, cur, rfl, _⟩
  · exact ⟨none, 0, by rw [h0]⟩
  · exact ⟨_, cap, rfl⟩
theorem infoR : (Try.prog.info? 29).map (fun i => (i.zero, i.size, i.bytes)) = some (some (.agg #[.int .i64 0, .int .i64 0, .int .i64 0, .int .i64 0]), 4, 32) := by kernel_rfl
theorem infoR_i : ∃ i, Try.prog.info? 29 = some i ∧ i.zero = some (.agg #[.int .i64 0, .int .i64 0, .int .i64 0, .int .i64 0]) ∧ i.size = 4 ∧ i.bytes = 32 := by
  have h := infoR
  cases e : Try.prog.info? 29 with
  | none => rw [e] at h; cases h
  | some i =>
    rw [e] at h
    simp at h
    exact ⟨i, rfl, h.1, h.2.1, h.2.2⟩
theorem four_new (w : World) (r : Int × Int × Int × Int) : ∀ j u, (cl4 r)[j]? = some u → (w.alloc (.cells #[.int .i64 r.1, .int .i64 r.2.1, .int .i64 r.2.2.1, .int .i64 r.2.2.2] 29)).cell? ((⟨w.heap.size, 0, none⟩ : Addr).add j) = some u := by
  intro j u hj
  rw [Sh.add_off, Nat.zero_add, cell_of_row _ _ j _ _ (0, 0) (heap_alloc_new w _)]
  simpa [cl4] using hj
/-- append(l, r) onto a list of the call's own -/
theorem wpList_rain {ops : Array Oper} {rest : List Oper} {o : Oper} {a : Act} {w : World} {Q : Exit → Act → World → Prop} (hgd : o.guard = none) (s x : Operand)
    (ho : o.op = .call { callee := .builtin .append, args := #[s, x], argTypes := #[23, 23] })
    (B : Nat) (v : Value) (l : List (Int × Int × Int × Int)) (hs : a.eval s = v) (V : World) (hown : OwnR B v l V) (r : Int × Int × Int × Int)
    (hw : w = V.alloc (.cells #[.int .i64 r.1, .int .i64 r.2.1, .int .i64 r.2.2.1, .int .i64 r.2.2.2] 29)) (hx : a.eval x = .slice (some ⟨V.heap.size, 0, none⟩) 1 1)
    (hlen : l.length ≤ 1048576) (hB : B ≤ V.heap.size) (nm : Nat) (hnm : l.length + 1 = nm)
    (h : ∀ g cap w', OwnR B (.slice (some ⟨g, 0, none⟩) nm cap) (l ++ [r]) w' → (∀ W0, Ab W0 V → W0.heap.size ≤ B → Ab W0 w') → wpList Try.prog ops Q rest (a.put o.dst (.slice (some ⟨g, 0, none⟩) nm cap)) w') : wpList Try.prog ops Q (o :: rest) a w := by
  subst hnm hw
  obtain ⟨i0, hi, hz0, hz1, hz2⟩ := infoR_i
  refine wpList_append_lies _ hgd s x _ ho B 29 i0 (.agg #[.int .i64 0, .int .i64 0, .int .i64 0, .int .i64 0]) 4 32 Try.underlying23 hi hz0 hz1 hz2 rfl (by decide) v l.length (l.flatMap cl4) hs (World.ownsRow.alloc hown _) ⟨V.heap.size, 0, none⟩ 1 1 (cl4 r) hx rfl (four_new V r) (fun u hu => by
    simp [cl4] at hu
    rcases hu with rfl | rfl | rfl | rfl <;> rfl) (by omega) (by unfold maxLen; omega) (by omega) (by simp; omega) _ rfl ?_
  intro g cap w' o1 g1 e1 _
  refine h g cap w' ?_ ?_
  · unfold OwnR
    rw [List.length_append, List.flatMap_append]
    simpa using o1
  · intro W0 a0 hW0
    exact (a0.trans (bl1 V _) : Below _ _ _).grown g1 (by have := a0.size; simp; omega) (fun k hk => Nat.le_trans hW0 (World.ownsRow.lt hown k hk).1)
/-- the rains that fall, of the first c -/
def flC (st : Int) (R : Nat → Int × Int × Int × Int) (c : Nat) : List (Int × Int × Int × Int) := ((List.range c).map R).filter (fallB st)
theorem flC_yes {st : Int} {R : Nat → Int × Int × Int × Int} {c : Nat} (h : fallB st (R c) = true) : flC st R (c + 1) = flC st R c ++ [R c] := by
  unfold flC
  rw [List.range_succ, List.map_append, List.filter_append]
  simp [h]
theorem flC_no {st : Int} {R : Nat → Int × Int × Int × Int} {c : Nat} (h : fallB st (R c) = false) : flC st R (c + 1) = flC st R c := by
  unfold flC
  rw [List.range_succ, List.map_append, List.filter_append]
  simp [h]
theorem flC_len (st : Int) (R : Nat → Int × Int × Int × Int) (c : Nat) : (flC st R c).length ≤ c := by
  have h := List.length_filter_le (fallB st) ((List.range c).map R)
  rw [List.length_map, List.length_range] at h
  exact h
theorem flC_mem {st : Int} {R : Nat → Int × Int × Int × Int} {c : Nat} {r : Int × Int × Int × Int} (h : r ∈ flC st R c) : ∃ k, k < c ∧ R k = r := by
  unfold flC at h
  have h2 := (List.mem_filter.1 h).1
  obtain ⟨k, hk, e⟩ := List.mem_map.1 h2
  exact ⟨k, List.mem_range.1 hk, e⟩
theorem range_getD (l : List (Int × Int × Int × Int)) : (List.range l.length).map (fun j => l.getD j (0, 0, 0, 0)) = l := by
  apply List.ext_getElem
  · simp
  · intro i h1 h2
    simp [List.getD, h2]
/-- only those that fall -/
theorem flC_rn (st : Int) (R : Nat → Int × Int × Int × Int) (c : Nat) (X : (Nat → Int) × Int) : rnN st (fun j => (flC st R c).getD j (0, 0, 0, 0)) X (flC st R c).length = rnN st R X c := by
  rw [rnN_list, range_getD, rnN_list]
  exact rnL_filter _ _
theorem flC_good {lw lr : Nat} {W : Nat → Int} {s st : Int} {R : Nat → Int × Int × Int × Int} (g : good18 lw W s lr R st) : good18 lw W s (flC st R lr).length (fun j => (flC st R lr).getD j (0, 0, 0, 0)) st := by
  obtain ⟨h1, h2, h3, h4, h5⟩ := g
  refine ⟨h1, h2, by have := flC_len st R lr; omega, h4, fun k hk => ?_⟩
  have hx : (flC st R lr).getD k (0, 0, 0, 0) = (flC st R lr)[k] := by simp [List.getD, hk]
  obtain ⟨j, hj, e⟩ := flC_mem (List.getElem_mem hk)
  dsimp only
  rw [hx, ← e]
  exact h5 j hj
set_option maxRecDepth 100000 in
set_option maxHeartbeats 16000000 in
theorem times_bad {pw : Option Addr} {lw cw : Nat} {s : Int} {pr : Option Addr} {lr cr : Nat} {st : Int} (ot er : Int) (w : World) (hq : decide (0 ≤ st) = false ∨ (decide (0 ≤ st) = true ∧ decide (0 ≤ ot) = false) ∨ (decide (0 ≤ st) = true ∧ decide (0 ≤ ot) = true ∧ er = 1))
    (LV : Hid (∀ v, Ab w v → Calls Try.prog 9 #[] v fun e w' => e = .returned (.bool true) ∧ Below v.heap.size v w'))
    (FL : Hid (∀ v, Ab w v → Calls Try.prog 12 #[.slice pw lw cw, .int .i64 s, .slice pr lr cr, .int .i64 st] v fun e w' => e = .returned (.tuple #[.slice none 0 0, .int .i64 0, .int .i64 1]) ∧ Below v.heap.size v w'))
    (F2 : Hid (∀ v, Ab w v → Calls Try.prog 12 #[.slice pw lw cw, .int .i64 s, .slice pr lr cr, .int .i64 ot] v fun e w' => ∃ a0 n cap y, e = .returned (.tuple #[.slice a0 n cap, .int .i64 y, .int .i64 er]) ∧ Below v.heap.size v w')) :
    Calls Try.prog 7 #[.agg #[.slice pw lw cw, .int .i64 s, .slice pr lr cr, .int .i64 st], .int .i64 ot] w fun e w' => e = .returned (.bool true) ∧ Below w.heap.size w w' := by
  rcases hq with q | ⟨q, q2⟩ | ⟨q, q2, rfl⟩
  · have A0 : Hid (Ab w (w.alloc (.cells #[.slice pw lw cw, .int .i64 s, .slice pr lr cr, .int .i64 st] 25))) := bl1 _ _
    have R0 : Hid ((w.alloc (.cells #[.slice pw lw cw, .int .i64 s, .slice pr lr cr, .int .i64 st] 25)).heap[w.heap.size]? = some (.cells #[.slice pw lw cw, .int .i64 s, .slice pr lr cr, .int .i64 st] 25)) := heap_alloc_new _ _
    go_enter Try.func7, Try.ntmps7
    go_upto_region 1 with fail
    generalize hW : World.alloc w _ = W0 at *
    obtain ⟨gw, hgw⟩ : ∃ g, w.heap.size = g := ⟨_, rfl⟩
    rw [hgw] at R0 ⊢
    clear hgw hW
    go_wp2_with fail
    refine (LV.out _ A0.out).mono ?_
    rintro e9 v1 ⟨rfl, b1⟩
    have A1 : Hid (Ab w v1) := A0.out.trans b1
    have R1 := hid (Ab.heap b1 R0.out)
    clear b1 A0 R0
    have x0 := cell_of_row _ _ 0 _ _ _ R1.out
    have x1 := cell_of_row _ _ 1 _ _ _ R1.out
    have x2 := cell_of_row _ _ 2 _ _ _ R1.out
    have x3 := cell_of_row _ _ 3 _ _ _ R1.out
    go_wp2_with fail
    refine (FL.out _ A1.out).mono ?_
    rintro e9 v2 ⟨rfl, b2⟩
    have A2 : Hid (Ab w v2) := A1.out.trans b2
    have R2 := hid (Ab.heap b2 R1.out)
    clear b2 x0 x1 x2 x3 A1 R1
    have x0 := cell_of_row _ _ 0 _ _ _ R2.out
    have x1 := cell_of_row _ _ 1 _ _ _ R2.out
    have x2 := cell_of_row _ _ 2 _ _ _ R2.out
    have x3 := cell_of_row _ _ 3 _ _ _ R2.out
    go_wp2_with fail
    refine (F2.out _ A2.out).mono ?_
    rintro e9 v3 ⟨a3, n3, c3, z3, rfl, b3⟩
    have A3 : Hid (Ab w v3) := A2.out.trans b3
    have R3 := hid (Ab.heap b3 R2.out)
    clear b3 x0 x1 x2 x3 A2 R2
    have x0 := cell_of_row _ _ 0 _ _ _ R3.out
    have x1 := cell_of_row _ _ 1 _ _ _ R3.out
    have x2 := cell_of_row _ _ 2 _ _ _ R3.out
    have x3 := cell_of_row _ _ 3 _ _ _ R3.out
    go_wp2
    go_ret
    exact ⟨rfl, A3.out⟩
  · have A0 : Hid (Ab w (w.alloc (.cells #[.slice pw lw cw, .int .i64 s, .slice pr lr cr, .int .i64 st] 25))) := bl1 _ _
    have R0 : Hid ((w.alloc (.cells #[.slice pw lw cw, .int .i64 s, .slice pr lr cr, .int .i64 st] 25)).heap[w.heap.size]? = some (.cells #[.slice pw lw cw, .int .i64 s, .slice pr lr cr, .int .i64 st] 25)) := heap_alloc_new _ _
    go_enter Try.func7, Try.ntmps7
    go_upto_region 1 with fail
    generalize hW : World.alloc w _ = W0 at *
    obtain ⟨gw, hgw⟩ : ∃ g, w.heap.size = g := ⟨_, rfl⟩
    rw [hgw] at R0 ⊢
    clear hgw hW
    go_wp2_with fail
    refine (LV.out _ A0.out).mono ?_
    rintro e9 v1 ⟨rfl, b1⟩
    have A1 : Hid (Ab w v1) := A0.out.trans b1
    have R1 := hid (Ab.heap b1 R0.out)
    clear b1 A0 R0
    have x0 := cell_of_row _ _ 0 _ _ _ R1.out
    have x1 := cell_of_row _ _ 1 _ _ _ R1.out
    have x2 := cell_of_row _ _ 2 _ _ _ R1.out
    have x3 := cell_of_row _ _ 3 _ _ _ R1.out
    go_wp2_with fail
    refine (FL.out _ A1.out).mono ?_
    rintro e9 v2 ⟨rfl, b2⟩
    have A2 : Hid (Ab w v2) := A1.out.trans b2
    have R2 := hid (Ab.heap b2 R1.out)
    clear b2 x0 x1 x2 x3 A1 R1
    have x0 := cell_of_row _ _ 0 _ _ _ R2.out
    have x1 := cell_of_row _ _ 1 _ _ _ R2.out
    have x2 := cell_of_row _ _ 2 _ _ _ R2.out
    have x3 := cell_of_row _ _ 3 _ _ _ R2.out
    go_wp2_with fail
    refine (F2.out _ A2.out).mono ?_
    rintro e9 v3 ⟨a3, n3, c3, z3, rfl, b3⟩
    have A3 : Hid (Ab w v3) := A2.out.trans b3
    have R3 := hid (Ab.heap b3 R2.out)
    clear b3 x0 x1 x2 x3 A2 R2
    have x0 := cell_of_row _ _ 0 _ _ _ R3.out
    have x1 := cell_of_row _ _ 1 _ _ _ R3.out
    have x2 := cell_of_row _ _ 2 _ _ _ R3.out
    have x3 := cell_of_row _ _ 3 _ _ _ R3.out
    go_wp2
    go_ret
    exact ⟨rfl, A3.out⟩
  · have A0 : Hid (Ab w (w.alloc (.cells #[.slice pw lw cw, .int .i64 s, .slice pr lr cr, .int .i64 st] 25))) := bl1 _ _
    have R0 : Hid ((w.alloc (.cells #[.slice pw lw cw, .int .i64 s, .slice pr lr cr, .int .i64 st] 25)).heap[w.heap.size]? = some (.cells #[.slice pw lw cw, .int .i64 s, .slice pr lr cr, .int .i64 st] 25)) := heap_alloc_new _ _
    go_enter Try.func7, Try.ntmps7
    go_upto_region 1 with fail
    generalize hW : World.alloc w _ = W0 at *
    obtain ⟨gw, hgw⟩ : ∃ g, w.heap.size = g := ⟨_, rfl⟩
    rw [hgw] at R0 ⊢
    clear hgw hW
    go_wp2_with fail
    refine (LV.out _ A0.out).mono ?_
    rintro e9 v1 ⟨rfl, b1⟩
    have A1 : Hid (Ab w v1) := A0.out.trans b1
    have R1 := hid (Ab.heap b1 R0.out)
    clear b1 A0 R0
    have x0 := cell_of_row _ _ 0 _ _ _ R1.out
    have x1 := cell_of_row _ _ 1 _ _ _ R1.out
    have x2 := cell_of_row _ _ 2 _ _ _ R1.out
    have x3 := cell_of_row _ _ 3 _ _ _ R1.out
    go_wp2_with fail
    refine (FL.out _ A1.out).mono ?_
    rintro e9 v2 ⟨rfl, b2⟩
    have A2 : Hid (Ab w v2) := A1.out.trans b2
    have R2 := hid (Ab.heap b2 R1.out)
    clear b2 x0 x1 x2 x3 A1 R1
    have x0 := cell_of_row _ _ 0 _ _ _ R2.out
    have x1 := cell_of_row _ _ 1 _ _ _ R2.out
    have x2 := cell_of_row _ _ 2 _ _ _ R2.out
    have x3 := cell_of_row _ _ 3 _ _ _ R2.out
    go_wp2_with fail
    refine (F2.out _ A2.out).mono ?_
    rintro e9 v3 ⟨a3, n3, c3, z3, rfl, b3⟩
    have A3 : Hid (Ab w v3) := A2.out.trans b3
    have R3 := hid (Ab.heap b3 R2.out)
    clear b3 x0 x1 x2 x3 A2 R2
    have x0 := cell_of_row _ _ 0 _ _ _ R3.out
    have x1 := cell_of_row _ _ 1 _ _ _ R3.out
    have x2 := cell_of_row _ _ 2 _ _ _ R3.out
    have x3 := cell_of_row _ _ 3 _ _ _ R3.out
    go_wp2
    go_ret
    exact ⟨rfl, A3.out⟩
set_option maxRecDepth 100000 in
set_option maxHeartbeats 16000000 in
theorem times_goA {pw : Option Addr} {lw cw : Nat} {s : Int} {pr : Option Addr} {lr cr : Nat} {st : Int} {R : Nat → Int × Int × Int × Int} (ot  : Int) (X : Nat → Int) (y : Int) (w : World) (q : decide (0 ≤ st) = true) (q2 : decide (0 ≤ ot) = true) (hlr : lr ≤ 1024) (hlw : lw ≤ 17592186044416) (IR : Hid (IsRn w pr lr R))
    (LV : Hid (∀ v, Ab w v → Calls Try.prog 9 #[] v fun e w' => e = .returned (.bool true) ∧ Below v.heap.size v w'))
    (FL : Hid (∀ v, Ab w v → Calls Try.prog 12 #[.slice pw lw cw, .int .i64 s, .slice pr lr cr, .int .i64 st] v fun e w' => ∃ a0 cap, e = .returned (.tuple #[.slice a0 lw cap, .int .i64 y, .int .i64 0]) ∧ Below v.heap.size v w' ∧ IsI w' a0 lw X))
    (F2 : Hid (∀ v, Ab w v → Calls Try.prog 12 #[.slice pw lw cw, .int .i64 s, .slice pr lr cr, .int .i64 ot] v fun e w' => ∃ a0 n cap y, e = .returned (.tuple #[.slice a0 n cap, .int .i64 y, .int .i64 0]) ∧ Below v.heap.size v w'))
    (F3 : Hid (∀ v p cp, Ab w v → IsRn v p (flC st R lr).length (fun j => (flC st R lr).getD j (0, 0, 0, 0)) → Calls Try.prog 12 #[.slice pw lw cw, .int .i64 s, .slice p (flC st R lr).length cp, .int .i64 st] v fun e w' => ∃ a0 cap, e = .returned (.tuple #[.slice a0 lw cap, .int .i64 y, .int .i64 0]) ∧ Below v.heap.size v w' ∧ IsI w' a0 lw X)) :
    Calls Try.prog 7 #[.agg #[.slice pw lw cw, .int .i64 s, .slice pr lr cr, .int .i64 st], .int .i64 ot] w fun e w' => e = .returned (.bool true) ∧ Below w.heap.size w w' := by
  have HLR := hid hlr
  have HLW := hid hlw
  have A0 : Hid (Ab w (w.alloc (.cells #[.slice pw lw cw, .int .i64 s, .slice pr lr cr, .int .i64 st] 25))) := bl1 _ _
  have R0 : Hid ((w.alloc (.cells #[.slice pw lw cw, .int .i64 s, .slice pr lr cr, .int .i64 st] 25)).heap[w.heap.size]? = some (.cells #[.slice pw lw cw, .int .i64 s, .slice pr lr cr, .int .i64 st] 25)) := heap_alloc_new _ _
  go_enter Try.func7, Try.ntmps7
  go_upto_region 1 with fail
  generalize hW : World.alloc w _ = W0 at *
  obtain ⟨gw, hgw⟩ : ∃ g, w.heap.size = g := ⟨_, rfl⟩
  rw [hgw] at R0 ⊢
  clear hgw hW
  go_wp2_with fail
  refine (LV.out _ A0.out).mono ?_
  rintro e9 v1 ⟨rfl, b1⟩
  have A1 : Hid (Ab w v1) := A0.out.trans b1
  have R1 := hid (Ab.heap b1 R0.out)
  clear b1 A0 R0
  have x0 := cell_of_row _ _ 0 _ _ _ R1.out
  have x1 := cell_of_row _ _ 1 _ _ _ R1.out
  have x2 := cell_of_row _ _ 2 _ _ _ R1.out
  have x3 := cell_of_row _ _ 3 _ _ _ R1.out
  go_wp2_with fail
  refine (FL.out _ A1.out).mono ?_
  rintro e9 v2 ⟨a2, c2, rfl, b2, i2⟩
  have A2 : Hid (Ab w v2) := A1.out.trans b2
  have R2 := hid (Ab.heap b2 R1.out)
  have I2 := hid i2
  clear b2 i2 x0 x1 x2 x3 A1 R1
  have x0 := cell_of_row _ _ 0 _ _ _ R2.out
  have x1 := cell_of_row _ _ 1 _ _ _ R2.out
  have x2 := cell_of_row _ _ 2 _ _ _ R2.out
  have x3 := cell_of_row _ _ 3 _ _ _ R2.out
  go_wp2_with fail
  refine (F2.out _ A2.out).mono ?_
  rintro e9 v3 ⟨a3, n3, c3, z3, rfl, b3⟩
  have A3 : Hid (Ab w v3) := A2.out.trans b3
  have R3 := hid (Ab.heap b3 R2.out)
  have I3 := hid (I2.out.below b3)
  clear b3 I2 x0 x1 x2 x3 A2 R2
  have x0 := cell_of_row _ _ 0 _ _ _ R3.out
  have x1 := cell_of_row _ _ 1 _ _ _ R3.out
  have x2 := cell_of_row _ _ 2 _ _ _ R3.out
  have x3 := cell_of_row _ _ 3 _ _ _ R3.out
  clear LV FL F2
  have NW : Hid (OwnR v3.heap.size (.slice none 0 0) (flC st R 0) v3) := World.ownsRow_nil _ _ _ _
  go_wp2
  clear x0 x1 x2 x3
  go_loopw [11, 12] (fun fv iv wr => ∃ c : Nat, c ≤ lr ∧ iv = .int .i64 (c : Nat) ∧ OwnR v3.heap.size fv (flC st R c) wr ∧ Ab v3 wr) (fun _ iv _ => lr - (intOf iv).toNat)
  case atStart => exact ⟨0, by omega, rfl, NW.out, Ab.refl v3⟩
  case round =>
    obtain ⟨c, hc, rfl, ow, ar⟩ := hrel
    have AR := hid ar
    obtain ⟨fa, fc, rfl⟩ := ow.form
    have OW := hid ow
    have x2 := cell_of_row _ _ 2 _ _ _ (AR.out.heap R3.out)
    clear ow ar NW
    by_cases hcn : c < lr
    · have HC := hid hcn
      have hcI : (c : Int) < lr := by omega
      have hcB : (c : Int) ≤ 1024 := by have := HLR.out; omega
      obtain ⟨rb, ro, rfl⟩ := IR.out.some0 (show 0 < lr by omega)
      obtain ⟨r1, r2, r3, r4, hr⟩ : ∃ a b c' d, R c = (a, b, c', d) := ⟨_, _, _, _, rfl⟩
      have RC : Hid (∀ v, Ab v3 v → v.cell? ⟨rb, ro + c * 4, none⟩ = some (.int .i64 r1) ∧ v.cell? ⟨rb, ro + c * 4 + 1, none⟩ = some (.int .i64 r2) ∧ v.cell? ⟨rb, ro + c * 4 + 2, none⟩ = some (.int .i64 r3) ∧ v.cell? ⟨rb, ro + c * 4 + 3, none⟩ = some (.int .i64 r4)) := fun v a => by
        have h := ((IR.out.below (A3.out.trans a)).at0 hcn).2.2
        rw [hr] at h
        exact h
      have RE := hid hr
      clear hr hcn hc
      obtain ⟨L, hL⟩ : ∃ L, (flC st R c).length = L := ⟨_, rfl⟩
      have LE := hid hL
      rw [hL]
      clear hL
      by_cases f1 : r3 ≤ st
      · have d1 : decide (r3 ≤ st) = true := decide_eq_true f1
        by_cases f2 : st < r4
        · have d2 : decide (st < r4) = true := decide_eq_true f2
          have FB : Hid (fallB st (R c) = true) := by
            show _ = _
            rw [RE.out]
            unfold fallB
            rw [d1, d2]
            rfl
          clear f1 f2
          go_upto_region 13 with fail
          obtain ⟨UU, E, hF1, hF2⟩ := cls wr
          have HU := hid hF2
          have HU1 := hid hF1
          have e1 : ∀ u, (E u).cell? ⟨gw, 2, none⟩ = some (.slice (some ⟨rb, ro, none⟩) lr cr) := fun u => cell_of_row _ _ 2 _ _ _ ((AR.out.trans (hF1 u)).heap R3.out)
          have e2 : ∀ u, (E u).cell? ⟨gw, 3, none⟩ = some (.int .i64 st) := fun u => cell_of_row _ _ 3 _ _ _ ((AR.out.trans (hF1 u)).heap R3.out)
          have e3 : ∀ u, (E u).cell? ⟨rb, ro + c * 4 + 2, none⟩ = some (.int .i64 r3) := fun u => (RC.out _ (AR.out.trans (hF1 u))).2.2.1
          have e4 : ∀ u, (E u).cell? ⟨rb, ro + c * 4 + 3, none⟩ = some (.int .i64 r4) := fun u => (RC.out _ (AR.out.trans (hF1 u))).2.2.2
          have DD0 := HU.out _ (Ab.refl wr).drew
          clear hF1 hF2
          refine region_cls E (by kernel_rfl) (by kernel_rfl) DD0 ?_
          repeat (go_big_quiet_step (with_reducible rfl))
          refine wpQuiet_nil ?_
          intro v6 hwz
          obtain ⟨u0, hu⟩ := hwz
          have A6 : Hid (Ab wr v6) := by rw [hu]; exact HU1.out u0
          clear hu u0
          clear HU HU1 DD0 e1 e2 e3 e4
          clear E UU
          have A36 : Hid (Ab v3 v6) := AR.out.trans A6.out
          have O6 := hid (OW.out.to A6.out)
          have x2 := cell_of_row _ _ 2 _ _ _ (A36.out.heap R3.out)
          have y0 := (RC.out _ A36.out).1
          have y1 := (RC.out _ A36.out).2.1
          have y2 := (RC.out _ A36.out).2.2.1
          have y3 := (RC.out _ A36.out).2.2.2
          have HL : Hid ((flC st R c).length ≤ 1048576 ∧ v3.heap.size ≤ v6.heap.size) := ⟨by have := flC_len st R c; have := HLR.out; have := HC.out; omega, Below.size A36.out⟩
          go_wp2_with (at_builtin; refine wpList_rain rfl _ _ rfl v3.heap.size (.slice fa L fc) (flC st R c) rfl v6 (by rw [← LE.out]; exact O6.out) (r1, r2, r3, r4) rfl rfl HL.out.1 HL.out.2 (L + 1) (by rw [LE.out]) ?_; intro g7 c7 w7 o7 a7; have O7 := hid o7; have A7 : Hid (Ab v3 w7) := a7 v3 A36.out (Nat.le_refl _); clear o7 a7)
          refine ⟨⟨c + 1, by have := HC.out; omega, by simp, ?_, A7.out⟩, by have := HC.out; simp [intOf]; omega⟩
          rw [flC_yes FB.out, RE.out]
          exact O7.out
        · have d2 : decide (st < r4) = false := decide_eq_false f2
          have FB : Hid (fallB st (R c) = false) := by
            show _ = _
            rw [RE.out]
            unfold fallB
            rw [d1, d2]
            rfl
          clear f1 f2
          go_upto_region 13 with fail
          obtain ⟨UU, E, hF1, hF2⟩ := cls wr
          have HU := hid hF2
          have HU1 := hid hF1
          have e1 : ∀ u, (E u).cell? ⟨gw, 2, none⟩ = some (.slice (some ⟨rb, ro, none⟩) lr cr) := fun u => cell_of_row _ _ 2 _ _ _ ((AR.out.trans (hF1 u)).heap R3.out)
          have e2 : ∀ u, (E u).cell? ⟨gw, 3, none⟩ = some (.int .i64 st) := fun u => cell_of_row _ _ 3 _ _ _ ((AR.out.trans (hF1 u)).heap R3.out)
          have e3 : ∀ u, (E u).cell? ⟨rb, ro + c * 4 + 2, none⟩ = some (.int .i64 r3) := fun u => (RC.out _ (AR.out.trans (hF1 u))).2.2.1
          have e4 : ∀ u, (E u).cell? ⟨rb, ro + c * 4 + 3, none⟩ = some (.int .i64 r4) := fun u => (RC.out _ (AR.out.trans (hF1 u))).2.2.2
          have DD0 := HU.out _ (Ab.refl wr).drew
          clear hF1 hF2
          refine region_cls E (by kernel_rfl) (by kernel_rfl) DD0 ?_
          repeat (go_big_quiet_step (with_reducible rfl))
          refine wpQuiet_nil ?_
          intro v6 hwz
          obtain ⟨u0, hu⟩ := hwz
          have A6 : Hid (Ab wr v6) := by rw [hu]; exact HU1.out u0
          clear hu u0
          clear HU HU1 DD0 e1 e2 e3 e4
          clear E UU
          go_wp2
          refine ⟨⟨c + 1, by have := HC.out; omega, by simp, ?_, AR.out.trans A6.out⟩, by have := HC.out; simp [intOf]; omega⟩
          rw [flC_no FB.out, ← LE.out]
          exact OW.out.to A6.out
      · have d1 : decide (r3 ≤ st) = false := decide_eq_false f1
        have FB : Hid (fallB st (R c) = false) := by
          show _ = _
          rw [RE.out]
          unfold fallB
          rw [d1]
          rfl
        clear f1
        go_upto_region 13 with fail
        obtain ⟨UU, E, hF1, hF2⟩ := cls wr
        have HU := hid hF2
        have HU1 := hid hF1
        have e1 : ∀ u, (E u).cell? ⟨gw, 2, none⟩ = some (.slice (some ⟨rb, ro, none⟩) lr cr) := fun u => cell_of_row _ _ 2 _ _ _ ((AR.out.trans (hF1 u)).heap R3.out)
        have e2 : ∀ u, (E u).cell? ⟨gw, 3, none⟩ = some (.int .i64 st) := fun u => cell_of_row _ _ 3 _ _ _ ((AR.out.trans (hF1 u)).heap R3.out)
        have e3 : ∀ u, (E u).cell? ⟨rb, ro + c * 4 + 2, none⟩ = some (.int .i64 r3) := fun u => (RC.out _ (AR.out.trans (hF1 u))).2.2.1
        have DD0 := HU.out _ (Ab.refl wr).drew
        clear hF1 hF2
        refine region_cls E (by kernel_rfl) (by kernel_rfl) DD0 ?_
        repeat (go_big_quiet_step (with_reducible rfl))
        refine wpQuiet_nil ?_
        intro v6 hwz
        obtain ⟨u0, hu⟩ := hwz
        have A6 : Hid (Ab wr v6) := by rw [hu]; exact HU1.out u0
        clear hu u0
        clear HU HU1 DD0 e1 e2 e3
        clear E UU
        go_wp2
        refine ⟨⟨c + 1, by have := HC.out; omega, by simp, ?_, AR.out.trans A6.out⟩, by have := HC.out; simp [intOf]; omega⟩
        rw [flC_no FB.out, ← LE.out]
        exact OW.out.to A6.out
    · have e6 : lr = c := by omega
      subst e6
      have A8 : Hid (Ab w wr) := A3.out.trans AR.out
      obtain ⟨ga, gc, ge, gi⟩ := OW.out.in (fun r hr => by
        obtain ⟨k, hk, rfl⟩ := flC_mem hr
        exact (IR.out k hk).1)
      injection ge with ge1 ge2 ge3
      subst ge1 ge3
      have C3 := hid (F3.out wr fa fc A8.out gi)
      have x0 := cell_of_row _ _ 0 _ _ _ (AR.out.heap R3.out)
      have x1 := cell_of_row _ _ 1 _ _ _ (AR.out.heap R3.out)
      have x3 := cell_of_row _ _ 3 _ _ _ (AR.out.heap R3.out)
      clear gi ge2 F3
      obtain ⟨L, hL⟩ : ∃ L, (flC st R lr).length = L := ⟨_, rfl⟩
      rw [hL] at C3 ⊢
      clear hL OW
      go_wp2_with fail
      refine C3.out.mono ?_
      rintro e9 v9 ⟨a9, c9, rfl, b9, i9⟩
      have A9 : Hid (Ab w v9) := A8.out.trans b9
      have I9 := hid i9
      have I8 := hid (I3.out.below (AR.out.trans b9))
      clear b9 i9 C3
      go_wp2_with fail
      refine (same18_at a9 a2 lw c9 c2 X v9 (by have := HLW.out; omega) I9.out I8.out).mono ?_
      rintro e9 u7 ⟨rfl, b7⟩
      have A10 : Hid (Ab w u7) := A9.out.trans b7
      clear b7
      go_wp2
      go_ret
      exact ⟨rfl, A10.out⟩
set_option maxRecDepth 100000 in
set_option maxHeartbeats 16000000 in
theorem times_goB {pw : Option Addr} {lw cw : Nat} {s : Int} {pr : Option Addr} {lr cr : Nat} {st : Int} {R : Nat → Int × Int × Int × Int} (ot er : Int) (X : Nat → Int) (y : Int) (w : World) (q : decide (0 ≤ st) = true) (q2 : decide (0 ≤ ot) = false) (hlr : lr ≤ 1024) (hlw : lw ≤ 17592186044416) (IR : Hid (IsRn w pr lr R))
    (LV : Hid (∀ v, Ab w v → Calls Try.prog 9 #[] v fun e w' => e = .returned (.bool true) ∧ Below v.heap.size v w'))
    (FL : Hid (∀ v, Ab w v → Calls Try.prog 12 #[.slice pw lw cw, .int .i64 s, .slice pr lr cr, .int .i64 st] v fun e w' => ∃ a0 cap, e = .returned (.tuple #[.slice a0 lw cap, .int .i64 y, .int .i64 0]) ∧ Below v.heap.size v w' ∧ IsI w' a0 lw X))
    (F2 : Hid (∀ v, Ab w v → Calls Try.prog 12 #[.slice pw lw cw, .int .i64 s, .slice pr lr cr, .int .i64 ot] v fun e w' => ∃ a0 n cap y, e = .returned (.tuple #[.slice a0 n cap, .int .i64 y, .int .i64 er]) ∧ Below v.heap.size v w'))
    (F3 : Hid (∀ v p cp, Ab w v → IsRn v p (flC st R lr).length (fun j => (flC st R lr).getD j (0, 0, 0, 0)) → Calls Try.prog 12 #[.slice pw lw cw, .int .i64 s, .slice p (flC st R lr).length cp, .int .i64 st] v fun e w' => ∃ a0 cap, e = .returned (.tuple #[.slice a0 lw cap, .int .i64 y, .int .i64 0]) ∧ Below v.heap.size v w' ∧ IsI w' a0 lw X)) :
    Calls Try.prog 7 #[.agg #[.slice pw lw cw, .int .i64 s, .slice pr lr cr, .int .i64 st], .int .i64 ot] w fun e w' => e = .returned (.bool true) ∧ Below w.heap.size w w' := by
  have HLR := hid hlr
  have HLW := hid hlw
  have A0 : Hid (Ab w (w.alloc (.cells #[.slice pw lw cw, .int .i64 s, .slice pr lr cr, .int .i64 st] 25))) := bl1 _ _
  have R0 : Hid ((w.alloc (.cells #[.slice pw lw cw, .int .i64 s, .slice pr lr cr, .int .i64 st] 25)).heap[w.heap.size]? = some (.cells #[.slice pw lw cw, .int .i64 s, .slice pr lr cr, .int .i64 st] 25)) := heap_alloc_new _ _
  go_enter Try.func7, Try.ntmps7
  go_upto_region 1 with fail
  generalize hW : World.alloc w _ = W0 at *
  obtain ⟨gw, hgw⟩ : ∃ g, w.heap.size = g := ⟨_, rfl⟩
  rw [hgw] at R0 ⊢
  clear hgw hW
  go_wp2_with fail
  refine (LV.out _ A0.out).mono ?_
  rintro e9 v1 ⟨rfl, b1⟩
  have A1 : Hid (Ab w v1) := A0.out.trans b1
  have R1 := hid (Ab.heap b1 R0.out)
  clear b1 A0 R0
  have x0 := cell_of_row _ _ 0 _ _ _ R1.out
  have x1 := cell_of_row _ _ 1 _ _ _ R1.out
  have x2 := cell_of_row _ _ 2 _ _ _ R1.out
  have x3 := cell_of_row _ _ 3 _ _ _ R1.out
  go_wp2_with fail
  refine (FL.out _ A1.out).mono ?_
  rintro e9 v2 ⟨a2, c2, rfl, b2, i2⟩
  have A2 : Hid (Ab w v2) := A1.out.trans b2
  have R2 := hid (Ab.heap b2 R1.out)
  have I2 := hid i2
  clear b2 i2 x0 x1 x2 x3 A1 R1
  have x0 := cell_of_row _ _ 0 _ _ _ R2.out
  have x1 := cell_of_row _ _ 1 _ _ _ R2.out
  have x2 := cell_of_row _ _ 2 _ _ _ R2.out
  have x3 := cell_of_row _ _ 3 _ _ _ R2.out
  go_wp2_with fail
  refine (F2.out _ A2.out).mono ?_
  rintro e9 v3 ⟨a3, n3, c3, z3, rfl, b3⟩
  have A3 : Hid (Ab w v3) := A2.out.trans b3
  have R3 := hid (Ab.heap b3 R2.out)
  have I3 := hid (I2.out.below b3)
  clear b3 I2 x0 x1 x2 x3 A2 R2
  have x0 := cell_of_row _ _ 0 _ _ _ R3.out
  have x1 := cell_of_row _ _ 1 _ _ _ R3.out
  have x2 := cell_of_row _ _ 2 _ _ _ R3.out
  have x3 := cell_of_row _ _ 3 _ _ _ R3.out
  clear LV FL F2
  have NW : Hid (OwnR v3.heap.size (.slice none 0 0) (flC st R 0) v3) := World.ownsRow_nil _ _ _ _
  go_wp2
  clear x0 x1 x2 x3
  go_loopw [11, 12] (fun fv iv wr => ∃ c : Nat, c ≤ lr ∧ iv = .int .i64 (c : Nat) ∧ OwnR v3.heap.size fv (flC st R c) wr ∧ Ab v3 wr) (fun _ iv _ => lr - (intOf iv).toNat)
  case atStart => exact ⟨0, by omega, rfl, NW.out, Ab.refl v3⟩
  case round =>
    obtain ⟨c, hc, rfl, ow, ar⟩ := hrel
    have AR := hid ar
    obtain ⟨fa, fc, rfl⟩ := ow.form
    have OW := hid ow
    have x2 := cell_of_row _ _ 2 _ _ _ (AR.out.heap R3.out)
    clear ow ar NW
    by_cases hcn : c < lr
    · have HC := hid hcn
      have hcI : (c : Int) < lr := by omega
      have hcB : (c : Int) ≤ 1024 := by have := HLR.out; omega
      obtain ⟨rb, ro, rfl⟩ := IR.out.some0 (show 0 < lr by omega)
      obtain ⟨r1, r2, r3, r4, hr⟩ : ∃ a b c' d, R c = (a, b, c', d) := ⟨_, _, _, _, rfl⟩
      have RC : Hid (∀ v, Ab v3 v → v.cell? ⟨rb, ro + c * 4, none⟩ = some (.int .i64 r1) ∧ v.cell? ⟨rb, ro + c * 4 + 1, none⟩ = some (.int .i64 r2) ∧ v.cell? ⟨rb, ro + c * 4 + 2, none⟩ = some (.int .i64 r3) ∧ v.cell? ⟨rb, ro + c * 4 + 3, none⟩ = some (.int .i64 r4)) := fun v a => by
        have h := ((IR.out.below (A3.out.trans a)).at0 hcn).2.2
        rw [hr] at h
        exact h
      have RE := hid hr
      clear hr hcn hc
      obtain ⟨L, hL⟩ : ∃ L, (flC st R c).length = L := ⟨_, rfl⟩
      have LE := hid hL
      rw [hL]
      clear hL
      by_cases f1 : r3 ≤ st
      · have d1 : decide (r3 ≤ st) = true := decide_eq_true f1
        by_cases f2 : st < r4
        · have d2 : decide (st < r4) = true := decide_eq_true f2
          have FB : Hid (fallB st (R c) = true) := by
            show _ = _
            rw [RE.out]
            unfold fallB
            rw [d1, d2]
            rfl
          clear f1 f2
          go_upto_region 13 with fail
          obtain ⟨UU, E, hF1, hF2⟩ := cls wr
          have HU := hid hF2
          have HU1 := hid hF1
          have e1 : ∀ u, (E u).cell? ⟨gw, 2, none⟩ = some (.slice (some ⟨rb, ro, none⟩) lr cr) := fun u => cell_of_row _ _ 2 _ _ _ ((AR.out.trans (hF1 u)).heap R3.out)
          have e2 : ∀ u, (E u).cell? ⟨gw, 3, none⟩ = some (.int .i64 st) := fun u => cell_of_row _ _ 3 _ _ _ ((AR.out.trans (hF1 u)).heap R3.out)
          have e3 : ∀ u, (E u).cell? ⟨rb, ro + c * 4 + 2, none⟩ = some (.int .i64 r3) := fun u => (RC.out _ (AR.out.trans (hF1 u))).2.2.1
          have e4 : ∀ u, (E u).cell? ⟨rb, ro + c * 4 + 3, none⟩ = some (.int .i64 r4) := fun u => (RC.out _ (AR.out.trans (hF1 u))).2.2.2
          have DD0 := HU.out _ (Ab.refl wr).drew
          clear hF1 hF2
          refine region_cls E (by kernel_rfl) (by kernel_rfl) DD0 ?_
          repeat (go_big_quiet_step (with_reducible rfl))
          refine wpQuiet_nil ?_
          intro v6 hwz
          obtain ⟨u0, hu⟩ := hwz
          have A6 : Hid (Ab wr v6) := by rw [hu]; exact HU1.out u0
          clear hu u0
          clear HU HU1 DD0 e1 e2 e3 e4
          clear E UU
          have A36 : Hid (Ab v3 v6) := AR.out.trans A6.out
          have O6 := hid (OW.out.to A6.out)
          have x2 := cell_of_row _ _ 2 _ _ _ (A36.out.heap R3.out)
          have y0 := (RC.out _ A36.out).1
          have y1 := (RC.out _ A36.out).2.1
          have y2 := (RC.out _ A36.out).2.2.1
          have y3 := (RC.out _ A36.out).2.2.2
          have HL : Hid ((flC st R c).length ≤ 1048576 ∧ v3.heap.size ≤ v6.heap.size) := ⟨by have := flC_len st R c; have := HLR.out; have := HC.out; omega, Below.size A36.out⟩
          go_wp2_with (at_builtin; refine wpList_rain rfl _ _ rfl v3.heap.size (.slice fa L fc) (flC st R c) rfl v6 (by rw [← LE.out]; exact O6.out) (r1, r2, r3, r4) rfl rfl HL.out.1 HL.out.2 (L + 1) (by rw [LE.out]) ?_; intro g7 c7 w7 o7 a7; have O7 := hid o7; have A7 : Hid (Ab v3 w7) := a7 v3 A36.out (Nat.le_refl _); clear o7 a7)
          refine ⟨⟨c + 1, by have := HC.out; omega, by simp, ?_, A7.out⟩, by have := HC.out; simp [intOf]; omega⟩
          rw [flC_yes FB.out, RE.out]
          exact O7.out
        · have d2 : decide (st < r4) = false := decide_eq_false f2
          have FB : Hid (fallB st (R c) = false) := by
            show _ = _
            rw [RE.out]
            unfold fallB
            rw [d1, d2]
            rfl
          clear f1 f2
          go_upto_region 13 with fail
          obtain ⟨UU, E, hF1, hF2⟩ := cls wr
          have HU := hid hF2
          have HU1 := hid hF1
          have e1 : ∀ u, (E u).cell? ⟨gw, 2, none⟩ = some (.slice (some ⟨rb, ro, none⟩) lr cr) := fun u => cell_of_row _ _ 2 _ _ _ ((AR.out.trans (hF1 u)).heap R3.out)
          have e2 : ∀ u, (E u).cell? ⟨gw, 3, none⟩ = some (.int .i64 st) := fun u => cell_of_row _ _ 3 _ _ _ ((AR.out.trans (hF1 u)).heap R3.out)
          have e3 : ∀ u, (E u).cell? ⟨rb, ro + c * 4 + 2, none⟩ = some (.int .i64 r3) := fun u => (RC.out _ (AR.out.trans (hF1 u))).2.2.1
          have e4 : ∀ u, (E u).cell? ⟨rb, ro + c * 4 + 3, none⟩ = some (.int .i64 r4) := fun u => (RC.out _ (AR.out.trans (hF1 u))).2.2.2
          have DD0 := HU.out _ (Ab.refl wr).drew
          clear hF1 hF2
          refine region_cls E (by kernel_rfl) (by kernel_rfl) DD0 ?_
          repeat (go_big_quiet_step (with_reducible rfl))
          refine wpQuiet_nil ?_
          intro v6 hwz
          obtain ⟨u0, hu⟩ := hwz
          have A6 : Hid (Ab wr v6) := by rw [hu]; exact HU1.out u0
          clear hu u0
          clear HU HU1 DD0 e1 e2 e3 e4
          clear E UU
          go_wp2
          refine ⟨⟨c + 1, by have := HC.out; omega, by simp, ?_, AR.out.trans A6.out⟩, by have := HC.out; simp [intOf]; omega⟩
          rw [flC_no FB.out, ← LE.out]
          exact OW.out.to A6.out
      · have d1 : decide (r3 ≤ st) = false := decide_eq_false f1
        have FB : Hid (fallB st (R c) = false) := by
          show _ = _
          rw [RE.out]
          unfold fallB
          rw [d1]
          rfl
        clear f1
        go_upto_region 13 with fail
        obtain ⟨UU, E, hF1, hF2⟩ := cls wr
        have HU := hid hF2
        have HU1 := hid hF1
        have e1 : ∀ u, (E u).cell? ⟨gw, 2, none⟩ = some (.slice (some ⟨rb, ro, none⟩) lr cr) := fun u => cell_of_row _ _ 2 _ _ _ ((AR.out.trans (hF1 u)).heap R3.out)
        have e2 : ∀ u, (E u).cell? ⟨gw, 3, none⟩ = some (.int .i64 st) := fun u => cell_of_row _ _ 3 _ _ _ ((AR.out.trans (hF1 u)).heap R3.out)
        have e3 : ∀ u, (E u).cell? ⟨rb, ro + c * 4 + 2, none⟩ = some (.int .i64 r3) := fun u => (RC.out _ (AR.out.trans (hF1 u))).2.2.1
        have DD0 := HU.out _ (Ab.refl wr).drew
        clear hF1 hF2
        refine region_cls E (by kernel_rfl) (by kernel_rfl) DD0 ?_
        repeat (go_big_quiet_step (with_reducible rfl))
        refine wpQuiet_nil ?_
        intro v6 hwz
        obtain ⟨u0, hu⟩ := hwz
        have A6 : Hid (Ab wr v6) := by rw [hu]; exact HU1.out u0
        clear hu u0
        clear HU HU1 DD0 e1 e2 e3
        clear E UU
        go_wp2
        refine ⟨⟨c + 1, by have := HC.out; omega, by simp, ?_, AR.out.trans A6.out⟩, by have := HC.out; simp [intOf]; omega⟩
        rw [flC_no FB.out, ← LE.out]
        exact OW.out.to A6.out
    · have e6 : lr = c := by omega
      subst e6
      have A8 : Hid (Ab w wr) := A3.out.trans AR.out
      obtain ⟨ga, gc, ge, gi⟩ := OW.out.in (fun r hr => by
        obtain ⟨k, hk, rfl⟩ := flC_mem hr
        exact (IR.out k hk).1)
      injection ge with ge1 ge2 ge3
      subst ge1 ge3
      have C3 := hid (F3.out wr fa fc A8.out gi)
      have x0 := cell_of_row _ _ 0 _ _ _ (AR.out.heap R3.out)
      have x1 := cell_of_row _ _ 1 _ _ _ (AR.out.heap R3.out)
      have x3 := cell_of_row _ _ 3 _ _ _ (AR.out.heap R3.out)
      clear gi ge2 F3
      obtain ⟨L, hL⟩ : ∃ L, (flC st R lr).length = L := ⟨_, rfl⟩
      rw [hL] at C3 ⊢
      clear hL OW
      go_wp2_with fail
      refine C3.out.mono ?_
      rintro e9 v9 ⟨a9, c9, rfl, b9, i9⟩
      have A9 : Hid (Ab w v9) := A8.out.trans b9
      have I9 := hid i9
      have I8 := hid (I3.out.below (AR.out.trans b9))
      clear b9 i9 C3
      go_wp2_with fail
      refine (same18_at a9 a2 lw c9 c2 X v9 (by have := HLW.out; omega) I9.out I8.out).mono ?_
      rintro e9 u7 ⟨rfl, b7⟩
      have A10 : Hid (Ab w u7) := A9.out.trans b7
      clear b7
      go_wp2
      go_ret
      exact ⟨rfl, A10.out⟩
set_option maxRecDepth 100000 in
set_option maxHeartbeats 4000000 in
theorem times_at (VC : ValidC) (FC : FallC) {pw : Option Addr} {lw cw : Nat} {s : Int} {pr : Option Addr} {lr cr : Nat} {st : Int} {W : Nat → Int} {R : Nat → Int × Int × Int × Int} (ot : Int) (w : World) (hs : Sh.W64 s) (ht : Sh.W64 st) (ho : Sh.W64 ot) (hlw : lw ≤ 17592186044416) (hlr : lr ≤ 17592186044416) (iw : IsI w pw lw W) (ir : IsRn w pr lr R) :
    Calls Try.prog 7 #[.agg #[.slice pw lw cw, .int .i64 s, .slice pr lr cr, .int .i64 st], .int .i64 ot] w fun e w' => e = .returned (.bool true) ∧ Below w.heap.size w w' := by
  have LV : Hid (∀ v, Ab w v → Calls Try.prog 9 #[] v fun e w' => e = .returned (.bool true) ∧ Below v.heap.size v w') := fun v _ => awake18_at VC FC v
  have F := fun v (a : Ab w v) => FC pw lw cw W s pr lr cr R st v hs ht hlw hlr (iw.below a) (ir.below a)
  have G := fun v (a : Ab w v) => FC pw lw cw W s pr lr cr R ot v hs ho hlw hlr (iw.below a) (ir.below a)
  have GY : good18 lw W s lr R ot → ∀ v, Ab w v → Calls Try.prog 12 #[.slice pw lw cw, .int .i64 s, .slice pr lr cr, .int .i64 ot] v fun e w' => ∃ a0 n cap y, e = .returned (.tuple #[.slice a0 n cap, .int .i64 y, .int .i64 0]) ∧ Below v.heap.size v w' := fun g v a => ((G v a).1 g).mono fun e w' h => by
    obtain ⟨u, rfl, b, o⟩ := h
    obtain ⟨a0, cap, rfl, i⟩ := own_rn g o
    exact ⟨a0, _, cap, _, rfl, b⟩
  have GN : ¬ good18 lw W s lr R ot → ∀ v, Ab w v → Calls Try.prog 12 #[.slice pw lw cw, .int .i64 s, .slice pr lr cr, .int .i64 ot] v fun e w' => ∃ a0 n cap y, e = .returned (.tuple #[.slice a0 n cap, .int .i64 y, .int .i64 1]) ∧ Below v.heap.size v w' := fun g v a => ((G v a).2 g).mono fun e w' h => by
    obtain ⟨rfl, b⟩ := h
    exact ⟨none, 0, 0, 0, rfl, b⟩
  by_cases g : good18 lw W s lr R st
  · have FG : ∀ v, Ab w v → Calls Try.prog 12 #[.slice pw lw cw, .int .i64 s, .slice pr lr cr, .int .i64 st] v fun e w' => ∃ a0 cap, e = .returned (.tuple #[.slice a0 lw cap, .int .i64 (rnN st R (W, s) lr).2, .int .i64 0]) ∧ Below v.heap.size v w' ∧ IsI w' a0 lw (rnN st R (W, s) lr).1 := fun v a => ((F v a).1 g).mono fun e w' h => by
      obtain ⟨u, rfl, b, o⟩ := h
      obtain ⟨a0, cap, rfl, i⟩ := own_rn g o
      exact ⟨a0, cap, rfl, b, i⟩
    have g3 := flC_good g
    have e3 := flC_rn st R lr (W, s)
    have F3 : ∀ v p cp, Ab w v → IsRn v p (flC st R lr).length (fun j => (flC st R lr).getD j (0, 0, 0, 0)) → Calls Try.prog 12 #[.slice pw lw cw, .int .i64 s, .slice p (flC st R lr).length cp, .int .i64 st] v fun e w' => ∃ a0 cap, e = .returned (.tuple #[.slice a0 lw cap, .int .i64 (rnN st R (W, s) lr).2, .int .i64 0]) ∧ Below v.heap.size v w' ∧ IsI w' a0 lw (rnN st R (W, s) lr).1 := fun v p cp a i => by
      refine ((FC pw lw cw W s p _ cp _ st v hs ht hlw (by have := flC_len st R lr; omega) (iw.below a) i).1 g3).mono fun e w' h => ?_
      obtain ⟨u, rfl, b, o⟩ := h
      obtain ⟨a0, cap, rfl, i⟩ := own_rn g3 o
      rw [e3] at i ⊢
      exact ⟨a0, cap, rfl, b, i⟩
    have q := decide_eq_true g.1
    by_cases o2 : 0 ≤ ot
    · have g2 : good18 lw W s lr R ot := ⟨o2, g.2⟩
      exact times_goA ot _ _ w q (decide_eq_true o2) g.2.2.1 hlw ir LV FG (GY g2) F3
    · exact times_goB ot 1 _ _ w q (decide_eq_false o2) g.2.2.1 hlw ir LV FG (GN (fun g2 => o2 g2.1)) F3
  · by_cases o1 : 0 ≤ st
    · by_cases o2 : 0 ≤ ot
      · exact times_bad ot 1 w (.inr (.inr ⟨decide_eq_true o1, decide_eq_true o2, rfl⟩)) LV (fun v a => (F v a).2 g) (GN (fun g2 => g ⟨o1, g2.2⟩))
      · exact times_bad ot 1 w (.inr (.inl ⟨decide_eq_true o1, decide_eq_false o2⟩)) LV (fun v a => (F v a).2 g) (GN (fun g2 => o2 g2.1))
    · by_cases g2 : good18 lw W s lr R ot
      · exact times_bad ot 0 w (.inl (decide_eq_false o1)) LV (fun v a => (F v a).2 g) (GY g2)
      · exact times_bad ot 1 w (.inl (decide_eq_false o1)) LV (fun v a => (F v a).2 g) (GN g2)
end Rn
end Go.Proofs.Ythcgbjkbnbeobaa
