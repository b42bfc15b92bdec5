/-
  Some of the texts of this proof, one behind the other.
-/
import Derived.Deep.QuietTactic
import Derived.Deep.AppendSrc
import Derived.Deep.AppendLies
import Derived.Test.YtkckcohemalhiaaGreatDoorRa09
namespace Go.Proofs.YtkckcohemalhiaaGreatDoor
open Go.RowKit Tf Cu Go.Deep
namespace Rv
/-- all blocks of V that are not of P are in w as they were -/
def AbQ (V : World) (P : Nat → Prop) (w : World) : Prop := w.os = V.os ∧ w.tape = V.tape ∧ w.output = V.output ∧ V.heap.size ≤ w.heap.size ∧ ∀ k, k < V.heap.size → ¬ P k → w.heap[k]? = V.heap[k]?
theorem AbQ.refl (V : World) (P : Nat → Prop) : AbQ V P V := ⟨rfl, rfl, rfl, Nat.le_refl _, fun _ _ _ => rfl⟩
theorem AbQ.to {V w w' : World} {P : Nat → Prop} (h : AbQ V P w) (a : Ab w w') : AbQ V P w' := by
  obtain ⟨h1, h2, h3, h4, h5⟩ := h
  exact ⟨a.os.trans h1, a.tape.trans h2, a.output.trans h3, Nat.le_trans h4 a.size, fun k hk hp => (a.block k (by omega)).trans (h5 k hk hp)⟩
theorem AbQ.set {V w : World} {P : Nat → Prop} (h : AbQ V P w) {g k : Nat} (hp : P g ∨ V.heap.size ≤ g) (v : Value) : AbQ V P (w.setCell ⟨g, k, none⟩ v) := by
  obtain ⟨h1, h2, h3, h4, h5⟩ := h
  refine ⟨h1, h2, h3, by simpa [World.setCell] using h4, fun i hi hn => (Below.heap_setCell _ _ _ _ (fun e => ?_)).trans (h5 i hi hn)⟩
  have e2 : i = g := e
  rcases hp with h | h
  · exact hn (by rw [e2]; exact h)
  · omega
theorem AbQ.grown {V wr w' : World} {P : Nat → Prop} {row : Option Nat} (h : AbQ V P wr) (hg : wr.grownBy w' row) (hr : ∀ b, row = some b → P b ∨ V.heap.size ≤ b) : AbQ V P w' := by
  obtain ⟨h1, h2, h3, h4, h5⟩ := h
  refine ⟨hg.os.trans h1, hg.tape.trans h2, hg.output.trans h3, by have := hg.size; omega, fun k hk hn => ?_⟩
  refine (hg.block k (by omega) (fun e => ?_)).trans (h5 k hk hn)
  rcases hr k e.symm with h6 | h6
  · exact hn h6
  · omega
theorem AbQ.ab {w0 V w : World} {P : Nat → Prop} (h : AbQ V P w) (a : Ab w0 V) (hp : ∀ k, k < w0.heap.size → ¬ P k) : Ab w0 w := by
  obtain ⟨h1, h2, h3, h4, h5⟩ := h
  exact ⟨h1.trans a.os, h2.trans a.tape, h3.trans a.output, Nat.le_trans (Below.size a) h4, fun k hk => (h5 k (Nat.lt_of_lt_of_le hk (Below.size a)) (hp k hk)).trans (a.block k hk)⟩
theorem AbQ.isI {V w : World} {P : Nat → Prop} {p : Option Addr} {n : Nat} {f : Nat → Int} (a : AbQ V P w) (h : Sh.IsI V p n f) (hp : ∀ b o, p = some ⟨b, o, none⟩ → ¬ P b) : Sh.IsI w p n f := fun k hk => by
  obtain ⟨h1, b, o, h2, h3, h4⟩ := h k hk
  exact ⟨h1, b, o, h2, Nat.lt_of_lt_of_le h3 a.2.2.2.1, (World.cell?_of_block (a.2.2.2.2 b h3 (hp b o h2))).trans h4⟩
theorem AbQ.isFl {V w : World} {P : Nat → Prop} {p : Option Addr} {n : Nat} {f : Nat → Nat} (a : AbQ V P w) (h : IsFl V p n f) (hp : ∀ b o, p = some ⟨b, o, none⟩ → ¬ P b) : IsFl w p n f := fun k hk => by
  obtain ⟨h1, b, o, h2, h3, h4⟩ := h k hk
  exact ⟨h1, b, o, h2, Nat.lt_of_lt_of_le h3 a.2.2.2.1, (World.cell?_of_block (a.2.2.2.2 b h3 (hp b o h2))).trans h4⟩
/-- a list of the call's own, of whatever kind of whole numbers -/
def OT (t : TypeId) (B : Nat) (v : Value) (l : List Int) (w : World) : Prop := w.ownsRow B t 1 v l.length (l.map (Value.int .i64))
theorem OT.ofOwn {B : Nat} {v : Value} {l : List Int} {w : World} (h : Sh.Own B v l w) : OT 2 B v l w := h
theorem OT.ofN {B : Nat} {v : Value} {l : List Nat} {w : World} (h : OwnN B v l w) : OT 3 B v (l.map fun c => ((c : Nat) : Int)) w := by
  unfold OT
  rw [List.length_map, List.map_map]
  exact h
theorem OT.mono {t : TypeId} {B C : Nat} {v : Value} {l : List Int} {w : World} (h : OT t B v l w) (hc : C ≤ B) : OT t C v l w := by
  rcases h.2 with ⟨q, e⟩ | ⟨g, cap, cur, q, hb, rest⟩
  · exact ⟨h.1, .inl ⟨q, e⟩⟩
  · exact ⟨h.1, .inr ⟨g, cap, cur, q, Nat.le_trans hc hb, rest⟩⟩
theorem OT.val {t : TypeId} {B : Nat} {v : Value} {l : List Int} {w : World} (h : OT t B v l w) : ∃ p cap, v = .slice p l.length cap := by
  rcases h.2 with ⟨q, e⟩ | ⟨g, cap, cur, q, hb, rest⟩
  · exact ⟨none, 0, by rw [q, e]⟩
  · exact ⟨_, cap, q⟩
theorem OT.blk {t : TypeId} {B : Nat} {v : Value} {l : List Int} {w : World} (h : OT t B v l w) {k : Nat} (hk : v.ownBlock = some k) : B ≤ k ∧ k < w.heap.size := World.ownsRow.lt h k hk
theorem OT.at {t : TypeId} {B : Nat} {v : Value} {l : List Int} {w : World} (h : OT t B v l w) {c : Nat} (hc : c < l.length) :
    ∃ g cap, v = .slice (some ⟨g, 0, none⟩) l.length cap ∧ w.cell? ⟨g, c, none⟩ = some (.int .i64 (l.getD c 0)) ∧ w.frozen? ⟨g, c, none⟩ = false ∧ ∀ x, OT t B v (l.set c x) (w.setCell ⟨g, c, none⟩ (.int .i64 x)) := by
  rcases h.2 with ⟨q, e⟩ | ⟨g, cap, cur, q, hb, hg, h1, h2, h3, h4⟩
  · omega
  · have e2 := World.ownsRow.cells (g := g) h (by rw [q]; rfl) c (.int .i64 (l.getD c 0)) (by simp [hc, List.getD])
    rw [Sh.add_off, Nat.zero_add] at e2
    refine ⟨g, cap, q, e2, by simp [World.frozen?, hg], fun x => ⟨by simp, .inr ⟨g, cap, cur.setIfInBounds c (.int .i64 x), by rw [List.length_set]; exact q, hb, one_set hg, by rw [List.length_set]; exact h1, h2, by simpa using h3, ?_⟩⟩⟩
    rw [List.length_set, Array.toList_setIfInBounds, List.take_set, h4, List.map_set]
theorem OT.blkeq {t : TypeId} {B : Nat} {v : Value} {l : List Int} {w w' : World} (h : OT t B v l w) (e : ∀ k, v.ownBlock = some k → w'.heap[k]? = w.heap[k]?) : OT t B v l w' := by
  rcases h.2 with ⟨q, e2⟩ | ⟨g, cap, cur, q, hb, hg, rest⟩
  · exact ⟨h.1, .inl ⟨q, e2⟩⟩
  · exact ⟨h.1, .inr ⟨g, cap, cur, q, hb, (e g (by rw [q]; rfl)).trans hg, rest⟩⟩
theorem OT.other {t : TypeId} {B : Nat} {v : Value} {l : List Int} {w : World} (h : OT t B v l w) {g c : Nat} (u : Value) (hg : v.ownBlock ≠ some g) : OT t B v l (w.setCell ⟨g, c, none⟩ u) := h.blkeq (fun k hk => Below.heap_setCell _ _ _ _ (fun e => hg (by have e2 : k = g := e; rw [← e2]; exact hk)))
theorem OT.grown {t : TypeId} {B : Nat} {v : Value} {l : List Int} {w w' : World} {row : Option Nat} (h : OT t B v l w) (x : w.grownBy w' row) (hg : ∀ k, v.ownBlock = some k → row ≠ some k) : OT t B v l w' := h.blkeq (fun k hk => x.block k (h.blk hk).2 (fun e => hg k hk e.symm))
theorem OT.to {t : TypeId} {B : Nat} {v : Value} {l : List Int} {w w' : World} (h : OT t B v l w) (a : Ab w w') : OT t B v l w' := h.blkeq (fun k hk => a.block k (h.blk hk).2)
theorem OT.isI {t : TypeId} {B : Nat} {v : Value} {l : List Int} {w : World} (h : OT t B v l w) (hl : ∀ x ∈ l, -9223372036854775808 ≤ x ∧ x ≤ 9223372036854775807) : ∃ p cap, v = .slice p l.length cap ∧ Sh.IsI w p l.length (fun j => l.getD j 0) := by
  rcases h.2 with ⟨q, e2⟩ | ⟨g, cap, cur, q, hb, hg, rest⟩
  · exact ⟨none, 0, by rw [q, e2], fun k hk => by omega⟩
  · refine ⟨_, cap, q, fun k hk => ⟨?_, g, 0, rfl, lt_of_block hg, ?_⟩⟩
    · have e : l.getD k 0 = l[k] := by simp [List.getD, hk]
      dsimp only
      rw [e]
      exact hl _ (List.getElem_mem hk)
    · have e := World.ownsRow.cells (g := g) h (by rw [q]; rfl) k (.int .i64 (l.getD k 0)) (by simp [hk, List.getD])
      rw [Sh.add_off] at e
      exact e
theorem wpList_app19 {ops : Array Oper} {rest : List Oper} {o : Oper} {a : Act} {w : World} {Q : Exit → Act → World → Prop} (hgd : o.guard = none) (s x : Operand)
    (ho : o.op = .call { callee := .builtin .append, args := #[s, x], argTypes := #[23, 23] })
    (B : Nat) (v : Value) (l : List Int) (hs : a.eval s = v) (hown : OT 2 B v l w)
    (ad : Addr) (m c : Nat) (news : List Int) (hx : a.eval x = .slice (some ad) m c) (hl : news.length = m) (hnews : ∀ j u, (news.map (Value.int .i64))[j]? = some u → w.cell? (ad.add j) = some u)
    (hm : 0 < m) (hlen : l.length + m ≤ 1048576) (hB : B ≤ w.heap.size) (nm : Nat) (hnm : l.length + m = nm)
    (h : ∀ g cap w', OT 2 B (.slice (some ⟨g, 0, none⟩) nm cap) (l ++ news) w' → w.grownBy w' v.ownBlock → (v.ownBlock = some g ∨ g = w.heap.size) → B ≤ g → wpList Tryz.prog ops Q rest (a.put o.dst (.slice (some ⟨g, 0, none⟩) nm cap)) w') : wpList Tryz.prog ops Q (o :: rest) a w := by
  subst hnm
  obtain ⟨i0, hi, hz0, hz1, hz2⟩ := Sh.info_i
  refine wpList_append_lies w hgd s x _ ho B 2 i0 (.int .i64 0) 1 8 Tryz.underlying23 hi hz0 hz1 hz2 rfl (by decide) v l.length (l.map (Value.int .i64)) hs hown ad m c (news.map (Value.int .i64)) hx (by simpa using hl) hnews (fun u hu => by
    obtain ⟨y, _, rfl⟩ := List.mem_map.1 hu
    rfl) hm (by unfold maxLen; omega) (by omega) hB _ rfl ?_
  intro g cap w' o1 g1 e1 _
  have hb : B ≤ g := by
    rcases o1.2 with ⟨q, _⟩ | ⟨g2, _, _, q, hb, _⟩
    · cases q
    · injection q with q1 q2 q3
      injection q1 with q4
      injection q4 with q5
      omega
  refine h g cap w' ?_ g1 e1 hb
  unfold OT
  rw [List.length_append, List.map_append, hl]
  exact o1
theorem infoN : (Tryz.prog.info? 3).map (fun i => (i.zero, i.size, i.bytes)) = some (some (.int .i64 0), 1, 8) := by kernel_rfl
theorem info_n : ∃ i, Tryz.prog.info? 3 = some i ∧ i.zero = some (.int .i64 0) ∧ i.size = 1 ∧ i.bytes = 8 := by
  have h := infoN
  cases e : Tryz.prog.info? 3 with
  | none => rw [e] at h; cases h
  | some i =>
    rw [e] at h
    injection h with h
    injection h with h1 h2
    injection h2 with h2 h3
    exact ⟨i, rfl, h1, h2, h3⟩
theorem wpList_appN {ops : Array Oper} {rest : List Oper} {o : Oper} {a : Act} {w : World} {Q : Exit → Act → World → Prop} (hgd : o.guard = none) (s x : Operand)
    (ho : o.op = .call { callee := .builtin .append, args := #[s, x], argTypes := #[42, 42] })
    (B : Nat) (v : Value) (l : List Int) (hs : a.eval s = v) (hown : OT 3 B v l w)
    (ad : Addr) (m c : Nat) (news : List Int) (hx : a.eval x = .slice (some ad) m c) (hl : news.length = m) (hnews : ∀ j u, (news.map (Value.int .i64))[j]? = some u → w.cell? (ad.add j) = some u)
    (hm : 0 < m) (hlen : l.length + m ≤ 1048576) (hB : B ≤ w.heap.size) (nm : Nat) (hnm : l.length + m = nm)
    (h : ∀ g cap w', OT 3 B (.slice (some ⟨g, 0, none⟩) nm cap) (l ++ news) w' → w.grownBy w' v.ownBlock → (v.ownBlock = some g ∨ g = w.heap.size) → B ≤ g → wpList Tryz.prog ops Q rest (a.put o.dst (.slice (some ⟨g, 0, none⟩) nm cap)) w') : wpList Tryz.prog ops Q (o :: rest) a w := by
  subst hnm
  obtain ⟨i0, hi, hz0, hz1, hz2⟩ := info_n
  refine wpList_append_lies w hgd s x _ ho B 3 i0 (.int .i64 0) 1 8 Tryz.underlying42 hi hz0 hz1 hz2 rfl (by decide) v l.length (l.map (Value.int .i64)) hs hown ad m c (news.map (Value.int .i64)) hx (by simpa using hl) hnews (fun u hu => by
    obtain ⟨y, _, rfl⟩ := List.mem_map.1 hu
    rfl) hm (by unfold maxLen; omega) (by omega) hB _ rfl ?_
  intro g cap w' o1 g1 e1 _
  have hb : B ≤ g := by
    rcases o1.2 with ⟨q, _⟩ | ⟨g2, _, _, q, hb, _⟩
    · cases q
    · injection q with q1 q2 q3
      injection q1 with q4
      injection q4 with q5
      omega
  refine h g cap w' ?_ g1 e1 hb
  unfold OT
  rw [List.length_append, List.map_append, hl]
  exact o1
theorem src_inN {w : World} {pb : Option Addr} {L : Nat} {B : Nat → Int} (h : Sh.IsI w pb L B) (cb : Nat) : Src Tryz.prog 1 42 (.slice pb L cb) L ((List.range L).map fun k => Value.int .i64 (B k)) w := by
  have one : ∀ u ∈ (List.range L).map (fun k => Value.int .i64 (B k)), u.oneCell' = true := fun u hu => by
    obtain ⟨k, _, rfl⟩ := List.mem_map.1 hu
    rfl
  cases pb with
  | none =>
    have : L = 0 := by
      rcases Nat.eq_zero_or_pos L with h0 | h0
      · exact h0
      · obtain ⟨_, b, o, h2, _⟩ := h 0 h0
        cases h2
    subst this
    exact Src.ofNil w Tryz.underlying42 cb
  | some a =>
    refine Src.ofSlice w Tryz.underlying42 a L cb _ (by simp) (fun j u hu => ?_) one
    have hj : j < L := by
      rcases Nat.lt_or_ge j L with h1 | h1
      · exact h1
      · rw [List.getElem?_eq_none (by simpa using h1)] at hu; cases hu
    obtain ⟨_, b, o, h2, _, h4⟩ := h j hj
    cases h2
    simp [hj] at hu
    rw [Sh.add_off, ← hu]
    exact h4
theorem wpList_zeroN {ops : Array Oper} {rest : List Oper} {o : Oper} {a : Act} {w : World} {Q : Exit → Act → World → Prop} (hgd : o.guard = none) (s x : Operand)
    (ho : o.op = .call { callee := .builtin .append, args := #[s, x], argTypes := #[42, 42] })
    (g : Nat) (hs : a.eval s = .slice (some ⟨g, 0, none⟩) 0 0) (src : Value) (hx : a.eval x = src) (hsrc : Src Tryz.prog 1 42 src 0 [] w)
    (h : wpList Tryz.prog ops Q rest (a.put o.dst (.slice (some ⟨g, 0, none⟩) 0 0)) w) : wpList Tryz.prog ops Q (o :: rest) a w := by
  obtain ⟨i0, hi, hz0, hz1, hz2⟩ := info_n
  refine wpList_plain hgd fun _ hK => ?_
  have hr := run_append_room_src (P := Tryz.prog) w 42 42 o.type 3 i0 Tryz.underlying42 hi g 0 0 0 src 0 [] (by rw [hz1]; exact hsrc) (Nat.le_refl _) (fun j hj => absurd hj (Nat.not_lt_zero j)) (fun j hj => absurd hj (Nat.not_lt_zero j))
  unfold Oper.wp execOp
  simp only [ho, resolve, invoke, builtin, Sem.run_bind, Sem.run_pure, Result.andThen_ok, List.map_toArray, List.map_cons, List.map_nil, hs, hx, hr]
  exact hK _ _ h
theorem OT.new {t : TypeId} (w : World) (B : Nat) (hB : B ≤ w.heap.size) : OT t B (.slice (some ⟨w.heap.size, 0, none⟩) 0 0) [] (w.alloc (.cells #[] t)) :=
  ⟨by simp, .inr ⟨w.heap.size, 0, #[], rfl, hB, heap_alloc_new _ _, Nat.le_refl _, by unfold maxLen; omega, by simp, by simp⟩⟩
theorem wpList_copyN {ops : Array Oper} {rest : List Oper} {o : Oper} {a : Act} {w : World} {Q : Exit → Act → World → Prop} (hgd : o.guard = none) (s x : Operand)
    (ho : o.op = .call { callee := .builtin .append, args := #[s, x], argTypes := #[42, 42] })
    (B g : Nat) (hs : a.eval s = .slice (some ⟨g, 0, none⟩) 0 0) (own : OT 3 B (.slice (some ⟨g, 0, none⟩) 0 0) [] w)
    (p : Option Addr) (n c : Nat) (f : Nat → Int) (hx : a.eval x = .slice p n c) (hI : Sh.IsI w p n f) (hn : n ≤ 65536) (hB : B ≤ w.heap.size)
    (h : ∀ g1 c1 w', Sh.IsI w' (some ⟨g1, 0, none⟩) n f → Below B w w' → B ≤ g1 → wpList Tryz.prog ops Q rest (a.put o.dst (.slice (some ⟨g1, 0, none⟩) n c1)) w') : wpList Tryz.prog ops Q (o :: rest) a w := by
  by_cases h0 : n = 0
  · subst h0
    exact wpList_zeroN hgd s x ho g hs (.slice p 0 c) hx (src_inN hI c) (h g 0 w (Sh.IsI.nil _ _ _) (Below.refl _ _) (World.ownsRow.lt own g rfl).1)
  · obtain ⟨b0, o0, rfl⟩ := hI.some0 (by omega)
    refine wpList_appN hgd s x ho B _ [] hs own ⟨b0, o0, none⟩ n c ((List.range n).map f) hx (by simp) (Sh.news_in hI) (by omega) (by simp; omega) hB n (by simp) ?_
    intro g1 c1 w' o1 x1 _ hg
    refine h g1 c1 w' ?_ (Below.grown (Below.refl _ _) x1 hB (fun k hk => (World.ownsRow.lt own k hk).1)) hg
    obtain ⟨a0, cap, e1, e2⟩ := OT.isI o1 (fun x hx => by
      rw [List.nil_append] at hx
      obtain ⟨i, hi, rfl⟩ := List.mem_map.1 hx
      exact (hI.at0 (List.mem_range.1 hi)).1)
    have lq : (([] : List Int) ++ (List.range n).map f).length = n := by simp
    rw [lq] at e1 e2
    injection e1 with e3 e4 e5
    rw [e3]
    exact e2.congr (fun k hk => by simp [hk])
/-- three lists of the call's own, apart, in worlds as V was but for P -/
def K19 (V : World) (B : Nat) (P : Nat → Prop) (la lb lo : List Int) (va vb vo : Value) (w : World) : Prop :=
  AbQ V P w ∧ OT 2 B va la w ∧ OT 2 B vb lb w ∧ OT 3 B vo lo w ∧
  ((∀ k, va.ownBlock = some k → vb.ownBlock ≠ some k) ∧ (∀ k, va.ownBlock = some k → vo.ownBlock ≠ some k) ∧ ∀ k, vb.ownBlock = some k → vo.ownBlock ≠ some k) ∧
  (∀ k, va.ownBlock = some k → P k ∨ V.heap.size ≤ k) ∧ (∀ k, vb.ownBlock = some k → P k ∨ V.heap.size ≤ k) ∧ ∀ k, vo.ownBlock = some k → P k ∨ V.heap.size ≤ k
theorem K19.set_a {V : World} {B : Nat} {P : Nat → Prop} {la lb lo : List Int} {va vb vo : Value} {w : World} (h : K19 V B P la lb lo va vb vo w) {c : Nat} (hc : c < la.length) :
    ∃ g cap y, va = .slice (some ⟨g, 0, none⟩) la.length cap ∧ y = la.getD c 0 ∧ w.cell? ⟨g, c, none⟩ = some (.int .i64 y) ∧ w.frozen? ⟨g, c, none⟩ = false ∧ ∀ x, K19 V B P (la.set c x) lb lo va vb vo (w.setCell ⟨g, c, none⟩ (.int .i64 x)) := by
  obtain ⟨q, h1, h2, h3, ⟨d1, d2, d3⟩, p1, p2, p3⟩ := h
  obtain ⟨g, cap, e, k1, k2, s⟩ := h1.at hc
  have gx : va.ownBlock = some g := by rw [e]; rfl
  exact ⟨g, cap, _, e, rfl, k1, k2, fun x => ⟨q.set (p1 g gx) _, s x, OT.other h2 _ (d1 g gx), OT.other h3 _ (d2 g gx), ⟨d1, d2, d3⟩, p1, p2, p3⟩⟩
theorem K19.app_a {V : World} {B : Nat} {P : Nat → Prop} {la lb lo : List Int} {va vb vo : Value} {w w' : World} (h : K19 V B P la lb lo va vb vo w) {O : Obj} {g nm cap : Nat} {x : Int}
    (o : OT 2 B (.slice (some ⟨g, 0, none⟩) nm cap) (la ++ [x]) w') (xg : (w.alloc O).grownBy w' va.ownBlock) (yg : va.ownBlock = some g ∨ g = (w.alloc O).heap.size) : K19 V B P (la ++ [x]) lb lo (.slice (some ⟨g, 0, none⟩) nm cap) vb vo w' := by
  obtain ⟨q, h1, h2, h3, ⟨d1, d2, d3⟩, p1, p2, p3⟩ := h
  have aa : Ab w (w.alloc O) := bl1 _ _
  have sz : (w.alloc O).heap.size = w.heap.size + 1 := by show (w.heap.push O).size = _; simp
  have n_b : ∀ k, va.ownBlock = some k → vb.ownBlock = some k → False := fun k e hk => d1 k e hk
  have m_b : vb.ownBlock = some g → False := fun hk => by
    rcases yg with e | e
    · exact n_b g e hk
    · have := (h2.blk hk).2
      omega
  have n_o : ∀ k, va.ownBlock = some k → vo.ownBlock = some k → False := fun k e hk => d2 k e hk
  have m_o : vo.ownBlock = some g → False := fun hk => by
    rcases yg with e | e
    · exact n_o g e hk
    · have := (h3.blk hk).2
      omega
  have pg : P g ∨ V.heap.size ≤ g := by
    rcases yg with e | e
    · exact p1 g e
    · have := q.2.2.2.1
      exact .inr (by omega)
  refine ⟨(q.to aa).grown xg p1, o, (h2.to aa).grown xg (fun k hk e => absurd hk (fun hk => n_b k e hk)), (h3.to aa).grown xg (fun k hk e => absurd hk (fun hk => n_o k e hk)), ⟨fun k hk hz => (by have e2 : g = k := Option.some.inj hk; subst e2; exact m_b hz), fun k hk hz => (by have e2 : g = k := Option.some.inj hk; subst e2; exact m_o hz), d3⟩, fun k hk => (by have e2 : g = k := Option.some.inj hk; subst e2; exact pg), p2, p3⟩
theorem K19.set_b {V : World} {B : Nat} {P : Nat → Prop} {la lb lo : List Int} {va vb vo : Value} {w : World} (h : K19 V B P la lb lo va vb vo w) {c : Nat} (hc : c < lb.length) :
    ∃ g cap y, vb = .slice (some ⟨g, 0, none⟩) lb.length cap ∧ y = lb.getD c 0 ∧ w.cell? ⟨g, c, none⟩ = some (.int .i64 y) ∧ w.frozen? ⟨g, c, none⟩ = false ∧ ∀ x, K19 V B P la (lb.set c x) lo va vb vo (w.setCell ⟨g, c, none⟩ (.int .i64 x)) := by
  obtain ⟨q, h1, h2, h3, ⟨d1, d2, d3⟩, p1, p2, p3⟩ := h
  obtain ⟨g, cap, e, k1, k2, s⟩ := h2.at hc
  have gx : vb.ownBlock = some g := by rw [e]; rfl
  exact ⟨g, cap, _, e, rfl, k1, k2, fun x => ⟨q.set (p2 g gx) _, OT.other h1 _ (fun e => d1 g e gx), s x, OT.other h3 _ (d3 g gx), ⟨d1, d2, d3⟩, p1, p2, p3⟩⟩
theorem K19.app_b {V : World} {B : Nat} {P : Nat → Prop} {la lb lo : List Int} {va vb vo : Value} {w w' : World} (h : K19 V B P la lb lo va vb vo w) {O : Obj} {g nm cap : Nat} {x : Int}
    (o : OT 2 B (.slice (some ⟨g, 0, none⟩) nm cap) (lb ++ [x]) w') (xg : (w.alloc O).grownBy w' vb.ownBlock) (yg : vb.ownBlock = some g ∨ g = (w.alloc O).heap.size) : K19 V B P la (lb ++ [x]) lo va (.slice (some ⟨g, 0, none⟩) nm cap) vo w' := by
  obtain ⟨q, h1, h2, h3, ⟨d1, d2, d3⟩, p1, p2, p3⟩ := h
  have aa : Ab w (w.alloc O) := bl1 _ _
  have sz : (w.alloc O).heap.size = w.heap.size + 1 := by show (w.heap.push O).size = _; simp
  have n_a : ∀ k, vb.ownBlock = some k → va.ownBlock = some k → False := fun k e hk => d1 k hk e
  have m_a : va.ownBlock = some g → False := fun hk => by
    rcases yg with e | e
    · exact n_a g e hk
    · have := (h1.blk hk).2
      omega
  have n_o : ∀ k, vb.ownBlock = some k → vo.ownBlock = some k → False := fun k e hk => d3 k e hk
  have m_o : vo.ownBlock = some g → False := fun hk => by
    rcases yg with e | e
    · exact n_o g e hk
    · have := (h3.blk hk).2
      omega
  have pg : P g ∨ V.heap.size ≤ g := by
    rcases yg with e | e
    · exact p2 g e
    · have := q.2.2.2.1
      exact .inr (by omega)
  refine ⟨(q.to aa).grown xg p2, (h1.to aa).grown xg (fun k hk e => absurd hk (fun hk => n_a k e hk)), o, (h3.to aa).grown xg (fun k hk e => absurd hk (fun hk => n_o k e hk)), ⟨fun k hk hz => (by have e2 : g = k := Option.some.inj hz; subst e2; exact m_a hk), d2, fun k hk hz => (by have e2 : g = k := Option.some.inj hk; subst e2; exact m_o hz)⟩, p1, fun k hk => (by have e2 : g = k := Option.some.inj hk; subst e2; exact pg), p3⟩
theorem K19.set_o {V : World} {B : Nat} {P : Nat → Prop} {la lb lo : List Int} {va vb vo : Value} {w : World} (h : K19 V B P la lb lo va vb vo w) {c : Nat} (hc : c < lo.length) :
    ∃ g cap y, vo = .slice (some ⟨g, 0, none⟩) lo.length cap ∧ y = lo.getD c 0 ∧ w.cell? ⟨g, c, none⟩ = some (.int .i64 y) ∧ w.frozen? ⟨g, c, none⟩ = false ∧ ∀ x, K19 V B P la lb (lo.set c x) va vb vo (w.setCell ⟨g, c, none⟩ (.int .i64 x)) := by
  obtain ⟨q, h1, h2, h3, ⟨d1, d2, d3⟩, p1, p2, p3⟩ := h
  obtain ⟨g, cap, e, k1, k2, s⟩ := h3.at hc
  have gx : vo.ownBlock = some g := by rw [e]; rfl
  exact ⟨g, cap, _, e, rfl, k1, k2, fun x => ⟨q.set (p3 g gx) _, OT.other h1 _ (fun e => d2 g e gx), OT.other h2 _ (fun e => d3 g e gx), s x, ⟨d1, d2, d3⟩, p1, p2, p3⟩⟩
theorem K19.app_o {V : World} {B : Nat} {P : Nat → Prop} {la lb lo : List Int} {va vb vo : Value} {w w' : World} (h : K19 V B P la lb lo va vb vo w) {O : Obj} {g nm cap : Nat} {x : Int}
    (o : OT 3 B (.slice (some ⟨g, 0, none⟩) nm cap) (lo ++ [x]) w') (xg : (w.alloc O).grownBy w' vo.ownBlock) (yg : vo.ownBlock = some g ∨ g = (w.alloc O).heap.size) : K19 V B P la lb (lo ++ [x]) va vb (.slice (some ⟨g, 0, none⟩) nm cap) w' := by
  obtain ⟨q, h1, h2, h3, ⟨d1, d2, d3⟩, p1, p2, p3⟩ := h
  have aa : Ab w (w.alloc O) := bl1 _ _
  have sz : (w.alloc O).heap.size = w.heap.size + 1 := by show (w.heap.push O).size = _; simp
  have n_a : ∀ k, vo.ownBlock = some k → va.ownBlock = some k → False := fun k e hk => d2 k hk e
  have m_a : va.ownBlock = some g → False := fun hk => by
    rcases yg with e | e
    · exact n_a g e hk
    · have := (h1.blk hk).2
      omega
  have n_b : ∀ k, vo.ownBlock = some k → vb.ownBlock = some k → False := fun k e hk => d3 k hk e
  have m_b : vb.ownBlock = some g → False := fun hk => by
    rcases yg with e | e
    · exact n_b g e hk
    · have := (h2.blk hk).2
      omega
  have pg : P g ∨ V.heap.size ≤ g := by
    rcases yg with e | e
    · exact p3 g e
    · have := q.2.2.2.1
      exact .inr (by omega)
  refine ⟨(q.to aa).grown xg p3, (h1.to aa).grown xg (fun k hk e => absurd hk (fun hk => n_a k e hk)), (h2.to aa).grown xg (fun k hk e => absurd hk (fun hk => n_b k e hk)), o, ⟨d1, fun k hk hz => (by have e2 : g = k := Option.some.inj hz; subst e2; exact m_a hk), fun k hk hz => (by have e2 : g = k := Option.some.inj hz; subst e2; exact m_b hk)⟩, p1, p2, fun k hk => (by have e2 : g = k := Option.some.inj hk; subst e2; exact pg)⟩
theorem lt_of_get {w : World} {b : Nat} {o : Obj} (h : w.heap[b]? = some o) : b < w.heap.size := by
  rcases Nat.lt_or_ge b w.heap.size with h1 | h1
  · exact h1
  · rw [Array.getElem?_eq_none h1] at h; cases h
theorem AbQ.heap {V w : World} {P : Nat → Prop} (a : AbQ V P w) {b : Nat} {o : Obj} (h : V.heap[b]? = some o) (hp : ¬ P b) : w.heap[b]? = some o := (a.2.2.2.2 b (lt_of_get h) hp).trans h
end Rv
end Go.Proofs.YtkckcohemalhiaaGreatDoor

namespace Go.Proofs.YtkckcohemalhiaaGreatDoor
open Go.RowKit Tf Cu
attribute [local go_sem] run_bits run_from raw_feq raw_fne raw_flt raw_fgt run_neg run_store_float
set_option maxRecDepth 100000 in
set_option maxHeartbeats 8000000 in
theorem long19_go (pb pw pt ps : Option Addr) (lb cb lw cw lt ct ls cs : Nat) (sky st : Int) (q : Bool) (w : World)
    (hq : (decide ((65536 : Int) < (lb : Int)) = true ∧ q = true) ∨ (decide ((65536 : Int) < (lb : Int)) = false ∧ decide ((65536 : Int) < (lw : Int)) = true ∧ q = true) ∨ (decide ((65536 : Int) < (lb : Int)) = false ∧ decide ((65536 : Int) < (lw : Int)) = false ∧ decide ((65536 : Int) < (lt : Int)) = true ∧ q = true) ∨ (decide ((65536 : Int) < (lb : Int)) = false ∧ decide ((65536 : Int) < (lw : Int)) = false ∧ decide ((65536 : Int) < (lt : Int)) = false ∧ decide ((65536 : Int) < (ls : Int)) = q)) :
    Calls Tryz.prog 20 #[.agg #[.slice pb lb cb, .slice pw lw cw, .slice pt lt ct, .slice ps ls cs, .int .i64 sky, .int .i64 st]] w fun e w' => e = .returned (.bool q) ∧ Below w.heap.size w w' := by
  have A0 : Hid (Ab w (w.alloc (.cells #[.slice pb lb cb, .slice pw lw cw, .slice pt lt ct, .slice ps ls cs, .int .i64 sky, .int .i64 st] 25))) := bl1 _ _
  have RO : Hid ((w.alloc (.cells #[.slice pb lb cb, .slice pw lw cw, .slice pt lt ct, .slice ps ls cs, .int .i64 sky, .int .i64 st] 25)).heap[w.heap.size]? = some (.cells #[.slice pb lb cb, .slice pw lw cw, .slice pt lt ct, .slice ps ls cs, .int .i64 sky, .int .i64 st] 25)) := heap_alloc_new _ _
  have s0 := cell_of_row _ _ 0 _ _ _ RO.out
  have s1 := cell_of_row _ _ 1 _ _ _ RO.out
  have s2 := cell_of_row _ _ 2 _ _ _ RO.out
  have s3 := cell_of_row _ _ 3 _ _ _ RO.out
  rcases hq with ⟨q1, rfl⟩ | ⟨q1, q2, rfl⟩ | ⟨q1, q2, q3, rfl⟩ | ⟨q1, q2, q3, q4⟩
  · go_enter Tryz.func20, Tryz.ntmps20
    go_wp2
    go_ret
    exact ⟨rfl, A0.out⟩
  · go_enter Tryz.func20, Tryz.ntmps20
    go_wp2
    go_ret
    exact ⟨rfl, A0.out⟩
  · go_enter Tryz.func20, Tryz.ntmps20
    go_wp2
    go_ret
    exact ⟨rfl, A0.out⟩
  · cases q with
    | true =>
      go_enter Tryz.func20, Tryz.ntmps20
      go_wp2
      go_ret
      exact ⟨rfl, A0.out⟩
    | false =>
      go_enter Tryz.func20, Tryz.ntmps20
      go_wp2
      go_ret
      exact ⟨rfl, A0.out⟩
theorem long19_at (pb pw pt ps : Option Addr) (lb cb lw cw lt ct ls cs : Nat) (sky st : Int) (w : World) : Calls Tryz.prog 20 #[.agg #[.slice pb lb cb, .slice pw lw cw, .slice pt lt ct, .slice ps ls cs, .int .i64 sky, .int .i64 st]] w fun e w' => e = .returned (.bool (decide (65536 < lb ∨ 65536 < lw ∨ 65536 < lt ∨ 65536 < ls))) ∧ Below w.heap.size w w' := by
  refine long19_go pb pw pt ps lb cb lw cw lt ct ls cs sky st _ w ?_
  by_cases c1 : 65536 < lb
  · exact .inl ⟨decide_eq_true (by omega), decide_eq_true (.inl c1)⟩
  · by_cases c2 : 65536 < lw
    · exact .inr (.inl ⟨decide_eq_false (by omega), decide_eq_true (by omega), decide_eq_true (.inr (.inl c2))⟩)
    · by_cases c3 : 65536 < lt
      · exact .inr (.inr (.inl ⟨decide_eq_false (by omega), decide_eq_false (by omega), decide_eq_true (by omega), decide_eq_true (.inr (.inr (.inl c3)))⟩))
      · refine .inr (.inr (.inr ⟨decide_eq_false (by omega), decide_eq_false (by omega), decide_eq_false (by omega), ?_⟩))
        by_cases c4 : 65536 < ls
        · rw [decide_eq_true (show (65536 : Int) < ls by omega), decide_eq_true (.inr (.inr (.inr c4)))]
        · rw [decide_eq_false (show ¬ (65536 : Int) < ls by omega), decide_eq_false (by omega)]
end Go.Proofs.YtkckcohemalhiaaGreatDoor

namespace Go.Proofs.YtkckcohemalhiaaGreatDoor
open Tf Ieee Cu
def wdF (s : Bool) (r : Nat) : Nat := bif s then 9223372036854775808 + r else r
theorem cw (c : Bool) (r : Nat) (h1 : 1 ≤ r) (h2 : r ≤ 9218868437227405312) : wdF c r = canonB (if c = true then 9223372036854775808 + r else r) := by
  cases c
  · have hm : mg r = r := mg_of_lt (by omega)
    unfold wdF canonB
    rw [cond_false, if_neg Bool.false_ne_true, if_neg (by rw [isN_true, hm]; omega), if_neg (by rw [hm]; omega)]
  · have hm : mg (9223372036854775808 + r) = r := by unfold mg; omega
    unfold wdF canonB
    rw [cond_true, if_pos rfl, if_neg (by rw [isN_true, hm]; omega), if_neg (by rw [hm]; omega)]
end Go.Proofs.YtkckcohemalhiaaGreatDoor

namespace Go.Proofs.YtkckcohemalhiaaGreatDoor
open Tf Ieee Cu
/-- the area of the cell of face 0 -/
def a0 (n : Nat) (k h : Int) : Nat := ar n (n, k, h) (n, k + 2, h) (n, k + 2, h + 2) (n, k, h + 2)
end Go.Proofs.YtkckcohemalhiaaGreatDoor

namespace Go.Proofs.YtkckcohemalhiaaGreatDoor
open Go.RowKit Tf Cu Go.Deep
theorem setCells_row {b : Nat} {t : TypeId} {N : Nat} : ∀ (news : List Value) (n : Nat) (f : Nat → Value) (w : World), w.rowIs b t N f → n + news.length ≤ N → (w.setCells b n news).rowIs b t N (fun j => if n ≤ j then (news[j - n]?).getD (f j) else f j) ∧ Abx w b N t (w.setCells b n news)
  | [], n, f, w, h, _ => by
    refine ⟨h.congr (fun i _ => by simp), ?_⟩
    obtain ⟨c, hb, hn, _⟩ := h
    exact (Ab.refl w).x hn hb
  | x :: xs, n, f, w, h, hn => by
    rw [List.length_cons] at hn
    have h1 := h.set n x
    obtain ⟨r1, r2⟩ := setCells_row xs (n + 1) _ _ h1 (by omega)
    refine ⟨r1.congr (fun j _ => ?_), ?_⟩
    · by_cases c : n ≤ j
      · by_cases c2 : j = n
        · subst c2
          simp [show ¬ j + 1 ≤ j by omega]
        · have e : j - n = (j - (n + 1)) + 1 := by omega
          simp [c, c2, show n + 1 ≤ j by omega, e]
      · simp [c, show ¬ n + 1 ≤ j by omega, show ¬ j = n by omega]
    · obtain ⟨c, hb, hc, _⟩ := h
      have a1 : Abx w b N t (w.setCell ⟨b, n, none⟩ x) := ((Ab.refl w).x hc hb).set n x
      obtain ⟨⟨p1, p2, p3, p4, p5⟩, _⟩ := a1
      obtain ⟨⟨q1, q2, q3, q4, q5⟩, q6⟩ := r2
      exact ⟨⟨q1.trans p1, q2.trans p2, q3.trans p3, Nat.le_trans p4 q4, fun k hk hne => (q5 k (by omega) hne).trans (p5 k hk hne)⟩, q6⟩
theorem step_app {P : Program} {ops : Array Oper} {o : Oper} {a : Act} {w : World} {K : Act → World → Prop} {Q : Exit → Act → World → Prop} {E : Prop} (hgd : o.guard = none) (s x : Operand) (t : TypeId)
    (ho : o.op = .call { callee := .builtin .append, args := #[s, x], argTypes := #[t, t] })
    (e : TypeId) (i : TypeInfo) (ht : P.underlying t = some (.slice e)) (hi : P.info? e = some i) (hsz : i.size = 1)
    (b n cap : Nat) (f : Nat → Value) (hs : a.eval s = .slice (some ⟨b, 0, none⟩) n cap) (row : w.rowIs b e cap f)
    (src : Value) (m : Nat) (news : List Value) (hx : a.eval x = src) (hsrc : Src P 1 t src m news w) (hroom : n + m ≤ cap) (nm : Nat) (hnm : n + m = nm)
    (h : ∀ w', w'.rowIs b e cap (fun j => if n ≤ j then (news[j - n]?).getD (f j) else f j) → Abx w b cap e w' → K (a.put o.dst (.slice (some ⟨b, 0, none⟩) nm cap)) w') :
    if Region.wanted o (yielded ops a.tmps) = true then Oper.wp P o a w K Q else E := by
  subst hnm
  have hw : Region.wanted o (yielded ops a.tmps) = true := by simp [Region.wanted, hgd]
  rw [if_pos hw]
  have hl : news.length = m := by have := hsrc.newsLen; omega
  have hr := run_append_room_src (P := P) w t t o.type e i ht hi b 0 n cap src m news (by rw [hsz]; exact hsrc) hroom
    (fun j hj => by rw [hsz]; simp only [Nat.zero_add, Nat.mul_one]; rw [row.cell (by omega)]; rfl) (fun j _ => by rw [hsz]; exact row.frozen _)
  rw [hsz, Nat.zero_add, Nat.mul_one] at hr
  obtain ⟨r1, r2⟩ := setCells_row news n f w row (by omega)
  unfold Oper.wp execOp
  simp only [ho, resolve, invoke, builtin, Sem.run_bind, Sem.run_pure, Result.andThen_ok, List.map_toArray, List.map_cons, List.map_nil, hs, hx, hr]
  exact h _ r1 r2
theorem info_f13 : ∃ i, Tryz.prog.info? 40 = some i ∧ i.size = 1 := by
  have h := infoF64
  cases e : Tryz.prog.info? 40 with
  | none => rw [e] at h; cases h
  | some i =>
    rw [e] at h
    simp at h
    exact ⟨i, rfl, h.2.1⟩
theorem info_i13 : ∃ i, Tryz.prog.info? 2 = some i ∧ i.size = 1 := by
  have h := info64
  cases e : Tryz.prog.info? 2 with
  | none => rw [e] at h; cases h
  | some i =>
    rw [e] at h
    simp at h
    exact ⟨i, rfl, h.2.1⟩
theorem src_fl {w : World} {pb : Option Addr} {L : Nat} {B : Nat → Nat} (h : IsFl w pb L B) (cb : Nat) : Src Tryz.prog 1 22 (.slice pb L cb) L ((List.range L).map fun k => Value.float .f64 (B k)) w := by
  have one : ∀ u ∈ (List.range L).map (fun k => Value.float .f64 (B k)), u.oneCell' = true := fun u hu => by
    obtain ⟨k, _, rfl⟩ := List.mem_map.1 hu
    rfl
  cases pb with
  | none =>
    have : L = 0 := by
      rcases Nat.eq_zero_or_pos L with h0 | h0
      · exact h0
      · obtain ⟨_, b, o, h2, _⟩ := h 0 h0
        cases h2
    subst this
    exact Src.ofNil w Tryz.underlying22 cb
  | some a =>
    refine Src.ofSlice w Tryz.underlying22 a L cb _ (by simp) (fun j u hu => ?_) one
    have hj : j < L := by
      rcases Nat.lt_or_ge j L with h1 | h1
      · exact h1
      · rw [List.getElem?_eq_none (by simpa using h1)] at hu; cases hu
    obtain ⟨_, b, o, h2, _, h4⟩ := h j hj
    cases h2
    simp [hj] at hu
    rw [add_off12, ← hu]
    exact h4
theorem src_in {w : World} {pb : Option Addr} {L : Nat} {B : Nat → Int} (h : IsIn w pb L B) (cb : Nat) : Src Tryz.prog 1 23 (.slice pb L cb) L ((List.range L).map fun k => Value.int .i64 (B k)) w := by
  have one : ∀ u ∈ (List.range L).map (fun k => Value.int .i64 (B k)), u.oneCell' = true := fun u hu => by
    obtain ⟨k, _, rfl⟩ := List.mem_map.1 hu
    rfl
  cases pb with
  | none =>
    have : L = 0 := by
      rcases Nat.eq_zero_or_pos L with h0 | h0
      · exact h0
      · obtain ⟨_, b, o, h2, _⟩ := h 0 h0
        cases h2
    subst this
    exact Src.ofNil w Tryz.underlying23 cb
  | some a =>
    refine Src.ofSlice w Tryz.underlying23 a L cb _ (by simp) (fun j u hu => ?_) one
    have hj : j < L := by
      rcases Nat.lt_or_ge j L with h1 | h1
      · exact h1
      · rw [List.getElem?_eq_none (by simpa using h1)] at hu; cases hu
    obtain ⟨_, b, o, h2, _, h4⟩ := h j hj
    cases h2
    simp [hj] at hu
    rw [add_off12, ← hu]
    exact h4
/-- a copied list: the numbers, the mark, noughts -/
def mkF (L : Nat) (g : Nat → Value) (m z : Value) (j : Nat) : Value := if j < L then g j else if j = L then m else z
theorem mk_two (L : Nat) (g : Nat → Value) (m z : Value) (j : Nat) :
    (if L ≤ j then ([m][j - L]?).getD (if 0 ≤ j then (((List.range L).map g)[j - 0]?).getD z else z) else (if 0 ≤ j then (((List.range L).map g)[j - 0]?).getD z else z)) = mkF L g m z j := by
  unfold mkF
  by_cases c : j < L
  · simp [c, show ¬ L ≤ j by omega]
  · by_cases c2 : j = L
    · subst c2
      simp
    · have e : j - L = (j - L - 1) + 1 := by omega
      rw [e]
      simp [c, c2, show L ≤ j by omega]
/-- a block of one number, in whatever world -/
theorem src_oneF {w : World} {q x : Nat} (h : w.heap[q]? = some (.cells #[.float .f64 x] 40 (0, 0))) : Src Tryz.prog 1 22 (.slice (some ⟨q, 0, none⟩) 1 1) 1 [.float .f64 x] w :=
  Src.ofSlice w Tryz.underlying22 ⟨q, 0, none⟩ 1 1 [.float .f64 x] rfl (World.news_of_block h) (fun u hu => by simp at hu; subst hu; rfl)
theorem src_oneI {w : World} {q : Nat} {x : Int} (h : w.heap[q]? = some (.cells #[.int .i64 x] 2 (0, 0))) : Src Tryz.prog 1 23 (.slice (some ⟨q, 0, none⟩) 1 1) 1 [.int .i64 x] w :=
  Src.ofSlice w Tryz.underlying23 ⟨q, 0, none⟩ 1 1 [.int .i64 x] rfl (World.news_of_block h) (fun u hu => by simp at hu; subst hu; rfl)
theorem Abx.far {V w w' : World} {g n b N : Nat} {T e : TypeId} (h : Abx V g n T w) (k : Abx w b N e w') (hb : V.heap.size ≤ b) (hg : g < V.heap.size) : Abx V g n T w' := by
  obtain ⟨⟨p1, p2, p3, p4, p5⟩, cs, p6, p7⟩ := h
  obtain ⟨⟨q1, q2, q3, q4, q5⟩, _⟩ := k
  exact ⟨⟨q1.trans p1, q2.trans p2, q3.trans p3, Nat.le_trans p4 q4, fun i hi hne => (q5 i (by omega) (by omega)).trans (p5 i hi hne)⟩, cs, p6, (q5 g (by omega) (by omega)).trans p7⟩
theorem abx_other {w w' : World} {b N q : Nat} {e : TypeId} {o : Obj} (k : Abx w b N e w') (h : w.heap[q]? = some o) (hne : q ≠ b) : w'.heap[q]? = some o := k.heap hne h
theorem make_f13 (L : Nat) (hL : L ≤ 65536) (w : World) : (Instr.makeSlice 22 (.int .i64 0) (.int .i64 ((L : Int) + 9))).run Tryz.prog w = .ok (.slice (some ⟨w.heap.size, 0, none⟩) 0 (L + 9)) (w.alloc (.cells (madeCells #[.float .f64 0] (L + 9)) 40)) := by
  obtain ⟨i, hi, hzz⟩ := Option.map_eq_some_iff.1 infoF64
  simp only [Prod.mk.injEq] at hzz
  obtain ⟨h1, h2, h3⟩ := hzz
  have h := run_make (P := Tryz.prog) w 22 40 i (.float .f64 0) Tryz.underlying22 hi h1 .i64 .i64 0 ((L : Int) + 9) (by omega) (by omega) (by rw [h3]; omega) (by omega)
  rw [h2, Nat.mul_one] at h
  have e : ((L : Int) + 9).toNat = L + 9 := by omega
  rw [e] at h
  exact h
theorem make_i13 (L : Nat) (hL : L ≤ 65536) (w : World) : (Instr.makeSlice 23 (.int .i64 0) (.int .i64 ((L : Int) + 9))).run Tryz.prog w = .ok (.slice (some ⟨w.heap.size, 0, none⟩) 0 (L + 9)) (w.alloc (.cells (madeCells #[.int .i64 0] (L + 9)) 2)) := by
  obtain ⟨i, hi, hzz⟩ := Option.map_eq_some_iff.1 info64
  simp only [Prod.mk.injEq] at hzz
  obtain ⟨h1, h2, h3⟩ := hzz
  have h := run_make (P := Tryz.prog) w 23 2 i (.int .i64 0) Tryz.underlying23 hi h1 .i64 .i64 0 ((L : Int) + 9) (by omega) (by omega) (by rw [h3]; omega) (by omega)
  rw [h2, Nat.mul_one] at h
  have e : ((L : Int) + 9).toNat = L + 9 := by omega
  rw [e] at h
  exact h
theorem wrap9 (L : Nat) (hL : L ≤ 65536) : IntKind.i64.wrap ((L : Int) + 9) = (L : Int) + 9 := by
  rw [IntKind.wrap_i64]
  omega
theorem row_m1 (V : World) (z : Value) (n : Nat) (t : TypeId) : (V.drew.alloc (.cells (madeCells #[z] n) t)).rowIs V.heap.size t n (fun _ => z) := World.rowIs_made V.drew z n t
theorem row_m2 (V : World) (z : Value) (n : Nat) (t : TypeId) (O : Obj) : ((V.drew.alloc (.cells (madeCells #[z] n) t)).alloc O).rowIs V.heap.size t n (fun _ => z) := (World.rowIs_made V.drew z n t).alloc O
theorem row_m3 (V : World) (z : Value) (n : Nat) (t : TypeId) (O : Obj) : ((V.drew.alloc O).alloc (.cells (madeCells #[z] n) t)).rowIs (V.heap.size + 1) t n (fun _ => z) := by
  have h := World.rowIs_made (V.drew.alloc O) z n t
  have e : (V.drew.alloc O).heap.size = V.heap.size + 1 := by
    show (V.heap.push O).size = _
    simp
  rwa [e] at h
theorem blk_m2 (V : World) (M O : Obj) : ((V.drew.alloc M).alloc O).heap[V.heap.size + 1]? = some O := heap_alloc2_new V.drew M O
theorem blk_m3 (V : World) (M O : Obj) : ((V.drew.alloc O).alloc M).heap[V.heap.size]? = some O := heap_alloc2_old V.drew O M
theorem rowIs_abx {V w : World} {b : Nat} {t : TypeId} {n : Nat} {f : Nat → Value} {g m : Nat} {T : TypeId} (h : V.rowIs b t n f) (a : Abx V g m T w) (hne : b ≠ g) : w.rowIs b t n f := h.of_block (a.1.2.2.2.2 b h.lt hne)
end Go.Proofs.YtkckcohemalhiaaGreatDoor
