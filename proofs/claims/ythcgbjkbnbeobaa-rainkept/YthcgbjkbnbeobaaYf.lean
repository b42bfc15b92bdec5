/-
  A list copied by append: a law (layer 14).
-/
import Derived.Test.YthcgbjkbnbeobaaUl
namespace Go.Proofs.Ythcgbjkbnbeobaa
open Go.RowKit Go.Deep
namespace Sh
theorem wpList_copy {ops : Array Oper} {rest : List Oper} {o : Oper} {a : Act} {w : World} {Q : Exit → Act → World → Prop} (hgd : o.guard = none) (s x : Operand)
    (ho : o.op = .call { callee := .builtin .append, args := #[s, x], argTypes := #[22, 22] })
    (B g : Nat) (hs : a.eval s = .slice (some ⟨g, 0, none⟩) 0 0) (own : Own B (.slice (some ⟨g, 0, none⟩) 0 0) [] w)
    (p : Option Addr) (n c : Nat) (f : Nat → Int) (hx : a.eval x = .slice p n c) (hI : IsI w p n f) (hn : n ≤ 65536) (hB : B ≤ w.heap.size)
    (h : ∀ g1 c1 w', IsI w' (some ⟨g1, 0, none⟩) n f → Below B w w' → B ≤ g1 → wpList Try.prog ops Q rest (a.put o.dst (.slice (some ⟨g1, 0, none⟩) n c1)) w') : wpList Try.prog ops Q (o :: rest) a w := by
  by_cases h0 : n = 0
  · subst h0
    exact wpList_zero hgd s x ho g hs (.slice p 0 c) hx (src_in hI c) (h g 0 w (IsI.nil _ _ _) (Below.refl _ _) (World.ownsRow.lt own g rfl).1)
  · obtain ⟨b0, o0, rfl⟩ := hI.some0 (by omega)
    refine wpList_app hgd s x ho B _ [] hs own ⟨b0, o0, none⟩ n c ((List.range n).map f) hx (by simp) (news_in hI) (by omega) (by simp; omega) hB n (by simp) ?_
    intro g1 c1 w' o1 x1 _ hg
    refine h g1 c1 w' ?_ (Below.grown (Below.refl _ _) x1 hB (fun k hk => (World.ownsRow.lt own k hk).1)) hg
    obtain ⟨a0, cap, e1, e2⟩ := own_in o1 (fun x hx => by
      rw [List.nil_append] at hx
      obtain ⟨i, hi, rfl⟩ := List.mem_map.1 hx
      exact (hI.at0 (List.mem_range.1 hi)).1)
    have lq : (([] : List Int) ++ (List.range n).map f).length = n := by simp
    rw [lq] at e1 e2
    injection e1 with e3 e4 e5
    rw [e3]
    exact e2.congr (fun k hk => by simp [hk])
end Sh
end Go.Proofs.Ythcgbjkbnbeobaa
