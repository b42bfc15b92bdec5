/-
  Cut against the document's answer, and its bounds: the walk (layer 14).
-/
import Derived.Test.YthcgbjkbnbeobaaUi
import Derived.Test.YthcgbjkbnbeobaaUh
namespace Go.Proofs.Ythcgbjkbnbeobaa
open Go.RowKit Go.Deep
namespace Sh
theorem wpList_zero {ops : Array Oper} {rest : List Oper} {o : Oper} {a : Act} {w : World} {Q : Exit → Act → World → Prop} (hgd : o.guard = none) (s x : Operand)
    (ho : o.op = .call { callee := .builtin .append, args := #[s, x], argTypes := #[22, 22] })
    (g : Nat) (hs : a.eval s = .slice (some ⟨g, 0, none⟩) 0 0) (src : Value) (hx : a.eval x = src) (hsrc : Src Try.prog 1 22 src 0 [] w)
    (h : wpList Try.prog ops Q rest (a.put o.dst (.slice (some ⟨g, 0, none⟩) 0 0)) w) : wpList Try.prog ops Q (o :: rest) a w := by
  obtain ⟨i0, hi, hz0, hz1, hz2⟩ := info_i
  refine wpList_plain hgd fun _ hK => ?_
  have hr := run_append_room_src (P := Try.prog) w 22 22 o.type 2 i0 Try.underlying22 hi g 0 0 0 src 0 [] (by rw [hz1]; exact hsrc) (Nat.le_refl _) (fun j hj => absurd hj (Nat.not_lt_zero j)) (fun j hj => absurd hj (Nat.not_lt_zero j))
  unfold Oper.wp execOp
  simp only [ho, resolve, invoke, builtin, Sem.run_bind, Sem.run_pure, Result.andThen_ok, List.map_toArray, List.map_cons, List.map_nil, hs, hx, hr]
  exact hK _ _ h
theorem news_in {w : World} {b o N : Nat} {D : Nat → Int} (h : IsI w (some ⟨b, o, none⟩) N D) : ∀ j u, (((List.range N).map D).map (Value.int .i64))[j]? = some u → w.cell? ((⟨b, o, none⟩ : Addr).add j) = some u := fun j u hu => by
  have hj : j < N := by
    rcases Nat.lt_or_ge j N with h1 | h1
    · exact h1
    · rw [List.getElem?_eq_none (by simpa using h1)] at hu; cases hu
  simp [hj] at hu
  rw [add_off, ← hu]
  exact (h.at0 hj).2.2
theorem cutL_len (W : Int) (n : Nat) (f : Nat → Int) : (cutL W n f).length = n := by unfold cutL; simp
theorem cutL_get {W : Int} {n : Nat} {f : Nat → Int} {i : Nat} (hi : i < n) : (cutL W n f).getD i 0 = cut1 W (sumN f n) (f i) := by
  unfold cutL
  simp [List.getD, hi]
theorem f_le {n : Nat} {f : Nat → Int} (hf : ∀ i, i < n → 0 ≤ f i) {i : Nat} (hi : i < n) : f i ≤ sumN f n := by
  have m := sumN_mono hf (m := i + 1) (by omega)
  have m0 := sumN_nn (f := f) (n := i) (fun j hj => hf j (by omega))
  have m1 : sumN f (i + 1) = sumN f i + f i := rfl
  omega
theorem cutL_in {W : Int} {n : Nat} {f : Nat → Int} (g : good W n f) {i : Nat} (hi : i < n) : 0 ≤ cut1 W (sumN f n) (f i) ∧ cut1 W (sumN f n) (f i) ≤ f i := cut1_in g.1 (g.2.1 i hi) (by have := f_le g.2.1 hi; have := g.2.2; omega)
theorem cut_own {W : Int} {n B : Nat} {f : Nat → Int} {v : Value} {w : World} (g : good W n f) (h : Own B v (cutL W n f) w) : ∃ a0 cap, v = .slice a0 n cap ∧ IsI w a0 n (fun i => cut1 W (sumN f n) (f i)) := by
  obtain ⟨a0, cap, e, i⟩ := own_in h (fun x hx => by
    unfold cutL at hx
    obtain ⟨j, hj, rfl⟩ := List.mem_map.1 hx
    have hj' := List.mem_range.1 hj
    have c := cutL_in g hj'
    have := f_le g.2.1 hj'
    have := g.2.2
    unfold W64
    omega)
  rw [cutL_len] at e i
  exact ⟨a0, cap, e, i.congr (fun k hk => cutL_get hk)⟩
end Sh
end Go.Proofs.Ythcgbjkbnbeobaa
