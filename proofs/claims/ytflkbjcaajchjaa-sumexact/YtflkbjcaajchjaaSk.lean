/-
  Lists of the call's own, put together by append.
-/
import Derived.Test.YtflkbjcaajchjaaSg
import Derived.OwnWalk
import Derived.Laws.AppendOwn
import Derived.Laws.AppendOwnNone
namespace Go.Proofs.Ytflkbjcaajchjaa
open Go.RowKit Tf

theorem info_f64 : (Try.prog.info? 25).map (fun i => (i.zero, i.size, i.bytes)) = some (some (.float .f64 0), 1, 8) := by kernel_rfl
theorem row_lt {w : World} {g : Nat} {o : Obj} (h : w.heap[g]? = some o) : g < w.heap.size := (Array.getElem?_eq_some_iff.1 h).1
/-- a list of the call's own, of so many floats -/
def OwnF (B : Nat) (v : Value) (l : List Nat) (w : World) : Prop := w.ownsRow B 25 1 v l.length (l.map (Value.float .f64))
theorem own_fl {B : Nat} {v : Value} {l : List Nat} {w : World} (h : OwnF B v l w) (hl : ∀ x ∈ l, x < 18446744073709551616) : ∃ a0 cap, v = .slice a0 l.length cap ∧ l.length ≤ cap ∧ (cap : Int) ≤ 9223372036854775807 ∧ (a0 = none → cap = 0) ∧ IsFl w a0 l.length (fun j => l.getD j 0) := by
  rcases h.2 with ⟨rfl, h0⟩ | ⟨g, cap, cur, rfl, hb, hg, h1, h2, h3, h4⟩
  · exact ⟨none, 0, by rw [h0], by omega, by decide, fun _ => rfl, fun k hk => by omega⟩
  · refine ⟨some ⟨g, 0, none⟩, cap, rfl, h1, by unfold maxLen at h2; omega, (fun e => by cases e), fun k hk => ?_⟩
    have hc := World.ownsRow.cells h (g := g) rfl k (.float .f64 l[k]) (by simp [hk])
    have e : l.getD k 0 = l[k] := by simp [hk]
    have ha : (⟨g, 0, none⟩ : Addr).add k = ⟨g, k, none⟩ := by unfold Addr.add; split <;> simp_all
    rw [ha] at hc
    refine ⟨by simp only [e]; exact hl _ (List.getElem_mem hk), g, 0, rfl, row_lt hg, ?_⟩
    rw [Nat.zero_add]; simp only [e]; exact hc
theorem own_nil (B : Nat) (w : World) : OwnF B (.slice none 0 0) [] w := ⟨by simp, .inl ⟨rfl, rfl⟩⟩
theorem OwnF.alloc {B : Nat} {v : Value} {l : List Nat} {w : World} (h : OwnF B v l w) (o : Obj) : OwnF B v l (w.alloc o) := World.ownsRow.alloc h o
theorem own_one (w : World) (B x : Nat) (hB : B ≤ w.heap.size) : OwnF B (.slice (some ⟨w.heap.size, 0, none⟩) 1 1) [x] (w.alloc (.cells #[.float .f64 x] 25)) :=
  ⟨by simp, .inr ⟨w.heap.size, 1, #[.float .f64 x], rfl, hB, heap_alloc_new _ _, Nat.le_refl _, by unfold maxLen; omega, by simp, by simp⟩⟩
theorem OwnF.below {B : Nat} {v : Value} {l : List Nat} {w w' : World} (h : OwnF B v l w) (hb : Below w.heap.size w w') : OwnF B v l w' := by
  refine ⟨h.1, ?_⟩
  rcases h.2 with h0 | ⟨g, cap, cur, e, hb', hg, h1, h2, h3, h4⟩
  · exact .inl h0
  · exact .inr ⟨g, cap, cur, e, hb', by rw [hb.block g (row_lt hg)]; exact hg, h1, h2, h3, h4⟩
/-- a list appended to a list of the call's own -/
theorem wpList_app {ops : Array Oper} {rest : List Oper} {o : Oper} {a : Act} {w : World} {Q : Exit → Act → World → Prop} (hgd : o.guard = none) (s x : Operand)
    (ho : o.op = .call { callee := .builtin .append, args := #[s, x], argTypes := #[22, 22] })
    (w0 : World) (v : Value) (l : List Nat) (hs : a.eval s = v) (hown : OwnF w0.heap.size v l w) (hbel : Below w0.heap.size w0 w)
    (a1 : Option Addr) (m c : Nat) (xs : Nat → Nat) (hx : a.eval x = .slice a1 m c) (hnil : a1 = none → c = 0) (hmc : m ≤ c) (hf : IsFl w a1 m xs) (hlen : l.length + m ≤ 17592186044000)
    (h : ∀ v' w', OwnF w0.heap.size v' (l ++ (List.range m).map xs) w' → Below w0.heap.size w0 w' → wpList Try.prog ops Q rest (a.put o.dst v') w') : wpList Try.prog ops Q (o :: rest) a w := by
  obtain ⟨i0, hi, hz0, hz1, hz2⟩ := info_parts info_f64
  have hsz := hbel.size
  cases a1 with
  | none =>
    have hc := hnil rfl
    subst hc
    obtain rfl : m = 0 := by omega
    refine wpList_append_own_none hgd s x _ ho w0.heap.size 25 i0 1 Try.underlying22 hi v _ _ hs hown hx ?_
    exact h v w (by simpa using hown) hbel
  | some ad =>
    have hn : ∀ (j : Nat) (u : Value), ((List.range m).map (fun k => Value.float .f64 (xs k)))[j]? = some u → w.cell? (ad.add j) = some u := by
      intro j u hj
      have hjm : j < m := by
        have := (List.getElem?_eq_some_iff.1 hj).1
        simpa using this
      simp [hjm] at hj
      subst hj
      obtain ⟨_, b, o', e, _, hc⟩ := hf j hjm
      cases e
      have ha : (⟨b, o', none⟩ : Addr).add j = ⟨b, o' + j, none⟩ := by unfold Addr.add; split <;> simp_all
      rw [ha]; exact hc
    refine wpList_append_own w hgd s x _ ho w0.heap.size 25 i0 (.float .f64 0) 1 8 Try.underlying22 hi hz0 hz1 hz2 rfl (by decide) v _ _ hs hown ad m c ((List.range m).map (fun k => Value.float .f64 (xs k))) hx (by simp) hn ?_ (by unfold maxLen; omega) (by omega) hsz ?_
    · intro u hu
      obtain ⟨k, _, rfl⟩ := List.mem_map.1 hu
      rfl
    · intro v' w' ho' hg _
      refine h v' w' ?_ ?_
      · unfold OwnF
        rw [List.length_append, List.map_append, List.map_map, List.length_map, List.length_range]
        exact ho'
      · exact hbel.grown hg hsz (fun k hk => (World.ownsRow.lt hown k hk).1)
end Go.Proofs.Ytflkbjcaajchjaa
