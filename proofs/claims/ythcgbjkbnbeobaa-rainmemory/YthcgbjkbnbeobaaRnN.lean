/-
  A copy of a list: walks over the program (layer 18).
-/
import Derived.Test.YthcgbjkbnbeobaaRnH
import Derived.Test.YthcgbjkbnbeobaaRnM
import Derived.Lib.SliceRun
namespace Go.Proofs.Ythcgbjkbnbeobaa
open Go.RowKit Go.Deep
namespace Rn
open Sh
theorem eql_nil18 (w : World) (a : Option Addr) (n c : Nat) : (binOp .eql 22 (.slice a n c) (.slice none 0 0)).run Try.prog w = .ok (.bool a.isNone) w := Lib.run_eql_slice_nil w _ _ a n c 0 0 Try.underlying22
attribute [local go_sem] eql_nil18
theorem wpList_zero18 {ops : Array Oper} {rest : List Oper} {o : Oper} {a : Act} {w : World} {Q : Exit → Act → World → Prop} (hgd : o.guard = none) (s x : Operand)
    (ho : o.op = .call { callee := .builtin .append, args := #[s, x], argTypes := #[22, 22] })
    (g : Nat) (hs : a.eval s = .slice (some ⟨g, 0, none⟩) 0 0) (src : Value) (hx : a.eval x = src) (hsrc : Src Try.prog 1 22 src 0 [] w)
    (h : wpList Try.prog ops Q rest (a.put o.dst (.slice (some ⟨g, 0, none⟩) 0 0)) w) : wpList Try.prog ops Q (o :: rest) a w := by
  obtain ⟨i0, hi, hz0, hz1, hz2⟩ := info_i
  refine wpList_plain hgd fun _ hK => ?_
  have hr := run_append_room_src (P := Try.prog) w 22 22 o.type 2 i0 Try.underlying22 hi g 0 0 0 src 0 [] (by rw [hz1]; exact hsrc) (Nat.le_refl _) (fun j hj => absurd hj (Nat.not_lt_zero j)) (fun j hj => absurd hj (Nat.not_lt_zero j))
  unfold Oper.wp execOp
  simp only [ho, resolve, invoke, builtin, Sem.run_bind, Sem.run_pure, Result.andThen_ok, List.map_toArray, List.map_cons, List.map_nil, hs, hx, hr]
  exact hK _ _ h
theorem news_in18 {w : World} {b o N : Nat} {D : Nat → Int} (h : IsI w (some ⟨b, o, none⟩) N D) : ∀ j u, (((List.range N).map D).map (Value.int .i64))[j]? = some u → w.cell? ((⟨b, o, none⟩ : Addr).add j) = some u := fun j u hu => by
  have hj : j < N := by
    rcases Nat.lt_or_ge j N with h1 | h1
    · exact h1
    · rw [List.getElem?_eq_none (by simpa using h1)] at hu; cases hu
  simp [hj] at hu
  rw [add_off, ← hu]
  exact (h.at0 hj).2.2
set_option maxRecDepth 100000 in
set_option maxHeartbeats 4000000 in
theorem clone18_none (n c : Nat) (w : World) : Calls Try.prog 18 #[.slice none n c] w fun e w' => e = .returned (.slice none 0 0) ∧ w' = w := by
  go_enter Try.func18, Try.ntmps18
  go_wp2
  go_ret
  exact ⟨rfl, rfl⟩
set_option maxRecDepth 100000 in
set_option maxHeartbeats 4000000 in
theorem clone18_zero (p : Addr) (c : Nat) (f : Nat → Int) (w : World) : Calls Try.prog 18 #[.slice (some p) 0 c] w fun e w' => e = .returned (.slice (some ⟨w.heap.size, 0, none⟩) 0 0) ∧ w' = w.alloc (.cells #[] 2) := by
  have SR := hid (src_in (IsI.nil (w.alloc (.cells #[] 2)) (some p) f) c)
  go_enter Try.func18, Try.ntmps18
  go_wp2_with (first
    | (at_builtin; refine wpList_zero18 rfl (.tmp 5) (.tmp 6) rfl w.heap.size rfl (.slice (some p) 0 c) rfl SR.out ?_))
  go_ret
  exact ⟨rfl, rfl⟩
set_option maxRecDepth 100000 in
set_option maxHeartbeats 4000000 in
theorem clone18_go (b o n c : Nat) (f : Nat → Int) (w : World) (h0 : 0 < n) (hn : n ≤ 17592186044416) (hf : IsI w (some ⟨b, o, none⟩) n f) : Calls Try.prog 18 #[.slice (some ⟨b, o, none⟩) n c] w fun e w' => ∃ v, e = .returned v ∧ Below w.heap.size w w' ∧ Own w.heap.size v ((List.range n).map f) w' := by
  have O2 := hid (own_new w w.heap.size (Nat.le_refl _))
  have N1 := hid (news_in18 (hf.below (bl1 w (.cells #[] 2))))
  have LS : Hid (w.heap.size ≤ (w.alloc (.cells #[] 2)).heap.size) := by show _ ≤ _; simp
  have H0 := hid h0
  have HN := hid hn
  clear hf h0 hn
  go_enter Try.func18, Try.ntmps18
  go_wp2_with (first
    | (at_builtin; refine wpList_app18 rfl (.tmp 5) (.tmp 6) rfl w.heap.size (.slice (some ⟨w.heap.size, 0, none⟩) 0 0) [] rfl O2.out ⟨b, o, none⟩ n c ((List.range n).map f) rfl (by simp) N1.out H0.out (by have := HN.out; simp; omega) LS.out n (by simp) ?_; intro g1 c1 w1 o1 x1 y1 _; have O1 := hid o1; have X1 := hid x1; clear o1 x1 y1))
  go_ret
  refine ⟨_, rfl, Below.grown (bl1 w _ : Below _ _ _) X1.out LS.out (fun k hk => (World.ownsRow.lt O2.out k hk).1), ?_⟩
  have h := O1.out
  rw [List.nil_append] at h
  exact h
/-- A COPY OF A LIST -/
theorem clone18_at (p : Option Addr) (n c : Nat) (f : Nat → Int) (w : World) (hn : n ≤ 17592186044416) (hf : IsI w p n f) : Calls Try.prog 18 #[.slice p n c] w fun e w' => ∃ v, e = .returned v ∧ Below w.heap.size w w' ∧ Own w.heap.size v ((List.range n).map f) w' := by
  rcases Nat.eq_zero_or_pos n with h0 | h0
  · subst h0
    cases p with
    | none =>
      refine (clone18_none 0 c w).mono ?_
      rintro e w' ⟨rfl, rfl⟩
      exact ⟨_, rfl, Below.refl _ _, Own.new _ _⟩
    | some a =>
      refine (clone18_zero a c f w).mono ?_
      rintro e w' ⟨rfl, rfl⟩
      exact ⟨_, rfl, bl1 _ _, own_new w w.heap.size (Nat.le_refl _)⟩
  · obtain ⟨b, o, rfl⟩ := hf.some0 h0
    exact clone18_go b o n c f w h0 hn hf
end Rn
end Go.Proofs.Ythcgbjkbnbeobaa
