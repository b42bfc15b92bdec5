/-
  Some of the texts of this proof, one behind the other.
-/
import Derived.WalkKit
import Derived.Test.YtapklbfcjgpkdaaDoorRows
import Derived.Deep.OwnRows
import Derived.Deep.Cut
import Derived.Deep.CutRange
import Derived.Deep.AppendLies
import Derived.Deep.AppendSrc
import Derived.OwnWalk
import Derived.Deep.QuietTactic
import Derived.Laws.StructEq
import Derived.Test.YtapklbfcjgpkdaaDoorZ10
namespace Go.Proofs.YtapklbfcjgpkdaaDoor
open Go.RowKit Cu Tf
attribute [local go_sem] run_store_float
theorem RefOf.c0 {n rb : Nat} {w : World} (h : RefOf n rb w) : w.cell? ⟨rb, 0, none⟩ = some (.int .i64 n) := by
  obtain ⟨ab, eb, cap, h1, -⟩ := h
  exact cell_of_row _ _ 0 _ _ _ h1
theorem rAround_ok {n rb c s : Nat} {w : World} (hn : 1 ≤ n ∧ n ≤ 32) (hc : c < 6 * n * n) (hs : s < 4) (g : RefOf n rb w) :
    Calls Tryd.prog 32 #[.pointer (some ⟨rb, 0, none⟩), .int .i64 c, .int .i64 s] w fun e w' => e = .returned (.tuple #[.int .i64 (eE n (4 * c + s) : Nat), .int .i64 (eS n (4 * c + s))]) ∧ Below w.heap.size w w' := by
  have CE := hid (rCells_at hn g)
  obtain ⟨ab, eb, cap, h1, h2, h3⟩ := g
  have h12 := n12 hn
  have ht := t_lt hc hs
  have hd := t_dec (c := c) hs
  have c1 := cell_of_row _ _ 1 _ _ _ h1
  have c2 := cell_of_row _ _ 2 _ _ _ h1
  have hb := bs_self hn.1 hc hs
  cases hl : isL n (4 * c + s) with
  | true =>
    have y1 := (h2.2 _ ht hl).1
    rw [hd.1] at y1
    have e1 : eE n (4 * c + s) = eN n (4 * c + s) := by unfold eE; rw [hl]; rfl
    have e2 : eS n (4 * c + s) = 1 := by unfold eS; rw [hl]; rfl
    have y0 := h3.cell ht
    rw [e1] at y0 ⊢
    rw [e2]
    exact rAround_go rb ab eb cap c s _ c (12 * n * n) (24 * n * n) w (6 * n * n) 1 (by omega) (by omega) (by omega) (by have := ed_lt hn.1 ht hl; omega) (by omega) c1 c2 y0 y1 CE (.inl ⟨rfl, rfl⟩)
  | false =>
    have hl' : isL n (mt n (4 * c + s)) = true := by rw [isL_mt hn.1 ht, hl]; rfl
    have y1 := (h2.2 _ (mt_lt hn.1 ht) hl').1
    rw [(mt_dec hn.1 ht).1, hd.1, hd.2] at y1
    have e1 : eE n (4 * c + s) = eN n (mt n (4 * c + s)) := by unfold eE; rw [hl]; rfl
    have e2 : eS n (4 * c + s) = -1 := by unfold eS; rw [hl]; rfl
    have y0 := h3.cell ht
    rw [e1] at y0 ⊢
    rw [e2]
    exact rAround_go rb ab eb cap c s _ (bsC n c s) (12 * n * n) (24 * n * n) w (6 * n * n) (-1) (by omega) (by omega) (by omega) (by have := ed_lt hn.1 (mt_lt hn.1 ht) hl'; omega) (by omega) c1 c2 y0 y1 CE (.inr ⟨hb, rfl⟩)
end Go.Proofs.YtapklbfcjgpkdaaDoor

namespace Go.Proofs.YtapklbfcjgpkdaaDoor.Sh
/-- all of them together -/
def sumN (f : Nat → Int) : Nat → Int
  | 0 => 0
  | n + 1 => sumN f n + f n
theorem sumN_congr {f g : Nat → Int} : ∀ {n : Nat}, (∀ i, i < n → f i = g i) → sumN f n = sumN g n
  | 0, _ => rfl
  | n + 1, h => by
    show sumN f n + f n = sumN g n + g n
    rw [sumN_congr (n := n) (fun i hi => h i (by omega)), h n (by omega)]
end Go.Proofs.YtapklbfcjgpkdaaDoor.Sh

namespace Go.Proofs.YtapklbfcjgpkdaaDoor
open Cu
namespace Sh
theorem eE_mt {n t : Nat} (hn : 1 ≤ n) (h : t < 24 * n * n) : eE n (mt n t) = eE n t := by
  unfold eE
  rw [isL_mt hn h, mt_mt hn h]
  cases isL n t <;> simp
theorem eS_mt {n t : Nat} (hn : 1 ≤ n) (h : t < 24 * n * n) : eS n (mt n t) = -eS n t := by
  unfold eS
  rw [isL_mt hn h]
  cases isL n t <;> simp
end Sh
end Go.Proofs.YtapklbfcjgpkdaaDoor

namespace Go.Proofs.YtapklbfcjgpkdaaDoor
open Cu
namespace Ms
open Sh
/-- what a side's edge takes out of its cell -/
def tk (n : Nat) (F : Nat → Int) (t : Nat) : Int := eS n t * F (eE n t)
/-- what a cell has behind it -/
def mv (n : Nat) (W F : Nat → Int) (c : Nat) : Int := W c - sumN (fun s => tk n F (4 * c + s)) 4
theorem sumN_add (f g : Nat → Int) : ∀ n, sumN (fun i => f i + g i) n = sumN f n + sumN g n
  | 0 => rfl
  | n + 1 => by
    show sumN (fun i => f i + g i) n + (f n + g n) = sumN f n + f n + (sumN g n + g n)
    rw [sumN_add f g n]
    omega
theorem sumN_neg (f : Nat → Int) : ∀ n, sumN (fun i => -f i) n = -sumN f n
  | 0 => rfl
  | n + 1 => by
    show sumN (fun i => -f i) n + -f n = -(sumN f n + f n)
    rw [sumN_neg f n]
    omega
theorem tk_add (n : Nat) (F G : Nat → Int) (t : Nat) : tk n (fun i => F i + G i) t = tk n F t + tk n G t := Int.mul_add _ _ _
theorem tk_neg (n : Nat) (F : Nat → Int) (t : Nat) : tk n (fun i => -F i) t = -tk n F t := Int.mul_neg _ _
/-- one behind the other -/
theorem mv_two (n : Nat) (W F G : Nat → Int) (c : Nat) : mv n (mv n W F) G c = mv n W (fun i => F i + G i) c := by
  unfold mv
  have e : sumN (fun s => tk n (fun i => F i + G i) (4 * c + s)) 4 = sumN (fun s => tk n F (4 * c + s) + tk n G (4 * c + s)) 4 := sumN_congr fun s _ => tk_add n F G _
  rw [e, sumN_add]
  omega
theorem mv_back (n : Nat) (W F : Nat → Int) (c : Nat) : mv n (mv n W F) (fun i => -F i) c = W c := by
  unfold mv
  have e : sumN (fun s => tk n (fun i => -F i) (4 * c + s)) 4 = sumN (fun s => -tk n F (4 * c + s)) 4 := sumN_congr fun s _ => tk_neg n F _
  rw [e, sumN_neg]
  omega
theorem tk_congr {n : Nat} {F G : Nat → Int} {t : Nat} (hn : 1 ≤ n) (h : t < 24 * n * n) (e : ∀ i, i < 12 * n * n → F i = G i) : tk n F t = tk n G t := by
  unfold tk
  rw [e _ (eE_lt hn h)]
theorem mv_congr {n : Nat} {W V F G : Nat → Int} {c : Nat} (hn : 1 ≤ n) (hc : c < 6 * n * n) (e : W c = V c) (f : ∀ i, i < 12 * n * n → F i = G i) : mv n W F c = mv n V G c := by
  unfold mv
  rw [e, sumN_congr (fun s hs => tk_congr hn (t_lt hc hs) f)]
/-- which sides an edge has -/
theorem eE_iff {n k t : Nat} (hn : 1 ≤ n) (hk : k < 12 * n * n) (h : t < 24 * n * n) : eE n t = k ↔ t = edT n k ∨ t = mt n (edT n k) := by
  obtain ⟨t1, t2, t3⟩ := edT_spec hn hk
  constructor
  · intro e
    unfold eE at e
    by_cases l : isL n t = true
    · rw [if_pos l] at e
      left
      rw [← e, edT_eN hn h l]
    · rw [if_neg l] at e
      right
      have l2 : isL n (mt n t) = true := by rw [isL_mt hn h]; simpa using l
      have := edT_eN hn (mt_lt hn h) l2
      rw [e] at this
      rw [this, mt_mt hn h]
  · rintro (rfl | rfl)
    · unfold eE; rw [if_pos t2, t3]
    · rw [eE_mt hn t1]; unfold eE; rw [if_pos t2, t3]
theorem ends_ne {n k : Nat} (hn : 1 ≤ n) (hk : k < 12 * n * n) : edT n k / 4 < mt n (edT n k) / 4 := by
  obtain ⟨t1, t2, t3⟩ := edT_spec hn hk
  have h := (mt_dec hn t1).1
  rw [h]
  exact of_decide_eq_true t2
/-- a flow over one edge alone -/
def oneF (k : Nat) (q : Int) (i : Nat) : Int := if i = k then q else 0
theorem tk_one {n k t : Nat} {q : Int} (hn : 1 ≤ n) (hk : k < 12 * n * n) (h : t < 24 * n * n) : tk n (oneF k q) t = if t = edT n k then q else if t = mt n (edT n k) then -q else 0 := by
  obtain ⟨t1, t2, t3⟩ := edT_spec hn hk
  have i := eE_iff hn hk h
  unfold tk oneF
  by_cases a : t = edT n k
  · rw [if_pos (i.2 (Or.inl a)), if_pos a]
    unfold eS
    rw [a, if_pos t2]
    omega
  · by_cases b : t = mt n (edT n k)
    · rw [if_pos (i.2 (Or.inr b)), if_neg a, if_pos b, b, eS_mt hn t1]
      unfold eS
      rw [if_pos t2]
      omega
    · rw [if_neg (fun e => (i.1 e).elim a b), if_neg a, if_neg b]
      omega
/-- it changes its two cells alone -/
theorem mv_one {n k c : Nat} {q : Int} (W : Nat → Int) (hn : 1 ≤ n) (hk : k < 12 * n * n) (hc : c < 6 * n * n) : mv n W (oneF k q) c = if c = edT n k / 4 then W c - q else if c = mt n (edT n k) / 4 then W c + q else W c := by
  have ne := ends_ne hn hk
  have e : sumN (fun s => tk n (oneF k q) (4 * c + s)) 4 = sumN (fun s => if 4 * c + s = edT n k then q else if 4 * c + s = mt n (edT n k) then -q else 0) 4 := sumN_congr fun s hs => tk_one hn hk (t_lt hc hs)
  unfold mv
  rw [e]
  generalize edT n k = a at *
  generalize mt n a = b at *
  show W c - (0 + (if 4 * c + 0 = a then q else if 4 * c + 0 = b then -q else 0) + (if 4 * c + 1 = a then q else if 4 * c + 1 = b then -q else 0) + (if 4 * c + 2 = a then q else if 4 * c + 2 = b then -q else 0) + (if 4 * c + 3 = a then q else if 4 * c + 3 = b then -q else 0)) = _
  by_cases ca : c = a / 4
  · rw [if_pos ca]
    have h4 : a % 4 = 0 ∨ a % 4 = 1 ∨ a % 4 = 2 ∨ a % 4 = 3 := by omega
    rcases h4 with h | h | h | h
    · rw [if_pos (show 4 * c + 0 = a by omega), if_neg (show ¬ 4 * c + 1 = a by omega), if_neg (show ¬ 4 * c + 1 = b by omega), if_neg (show ¬ 4 * c + 2 = a by omega), if_neg (show ¬ 4 * c + 2 = b by omega), if_neg (show ¬ 4 * c + 3 = a by omega), if_neg (show ¬ 4 * c + 3 = b by omega)]; omega
    · rw [if_neg (show ¬ 4 * c + 0 = a by omega), if_neg (show ¬ 4 * c + 0 = b by omega), if_pos (show 4 * c + 1 = a by omega), if_neg (show ¬ 4 * c + 2 = a by omega), if_neg (show ¬ 4 * c + 2 = b by omega), if_neg (show ¬ 4 * c + 3 = a by omega), if_neg (show ¬ 4 * c + 3 = b by omega)]; omega
    · rw [if_neg (show ¬ 4 * c + 0 = a by omega), if_neg (show ¬ 4 * c + 0 = b by omega), if_neg (show ¬ 4 * c + 1 = a by omega), if_neg (show ¬ 4 * c + 1 = b by omega), if_pos (show 4 * c + 2 = a by omega), if_neg (show ¬ 4 * c + 3 = a by omega), if_neg (show ¬ 4 * c + 3 = b by omega)]; omega
    · rw [if_neg (show ¬ 4 * c + 0 = a by omega), if_neg (show ¬ 4 * c + 0 = b by omega), if_neg (show ¬ 4 * c + 1 = a by omega), if_neg (show ¬ 4 * c + 1 = b by omega), if_neg (show ¬ 4 * c + 2 = a by omega), if_neg (show ¬ 4 * c + 2 = b by omega), if_pos (show 4 * c + 3 = a by omega)]; omega
  · rw [if_neg ca]
    rw [if_neg (show ¬ 4 * c + 0 = a by omega), if_neg (show ¬ 4 * c + 1 = a by omega), if_neg (show ¬ 4 * c + 2 = a by omega), if_neg (show ¬ 4 * c + 3 = a by omega)]
    by_cases cb : c = b / 4
    · rw [if_pos cb]
      have h4 : b % 4 = 0 ∨ b % 4 = 1 ∨ b % 4 = 2 ∨ b % 4 = 3 := by omega
      rcases h4 with h | h | h | h
      · rw [if_pos (show 4 * c + 0 = b by omega), if_neg (show ¬ 4 * c + 1 = b by omega), if_neg (show ¬ 4 * c + 2 = b by omega), if_neg (show ¬ 4 * c + 3 = b by omega)]; omega
      · rw [if_neg (show ¬ 4 * c + 0 = b by omega), if_pos (show 4 * c + 1 = b by omega), if_neg (show ¬ 4 * c + 2 = b by omega), if_neg (show ¬ 4 * c + 3 = b by omega)]; omega
      · rw [if_neg (show ¬ 4 * c + 0 = b by omega), if_neg (show ¬ 4 * c + 1 = b by omega), if_pos (show 4 * c + 2 = b by omega), if_neg (show ¬ 4 * c + 3 = b by omega)]; omega
      · rw [if_neg (show ¬ 4 * c + 0 = b by omega), if_neg (show ¬ 4 * c + 1 = b by omega), if_neg (show ¬ 4 * c + 2 = b by omega), if_pos (show 4 * c + 3 = b by omega)]; omega
    · rw [if_neg cb, if_neg (show ¬ 4 * c + 0 = b by omega), if_neg (show ¬ 4 * c + 1 = b by omega), if_neg (show ¬ 4 * c + 2 = b by omega), if_neg (show ¬ 4 * c + 3 = b by omega)]; omega
end Ms
end Go.Proofs.YtapklbfcjgpkdaaDoor

namespace Go.Proofs.YtapklbfcjgpkdaaDoor
open Go.RowKit Go.Deep
namespace Sh
/-- a list of so many whole numbers -/
def IsI (w : World) (a0 : Option Addr) (len : Nat) (xs : Nat → Int) : Prop := ∀ k, k < len → (-9223372036854775808 ≤ xs k ∧ xs k ≤ 9223372036854775807) ∧ ∃ b o, a0 = some ⟨b, o, none⟩ ∧ b < w.heap.size ∧ w.cell? ⟨b, o + k, none⟩ = some (.int .i64 (xs k))
theorem IsI.below {w w' : World} {a0 : Option Addr} {len : Nat} {xs : Nat → Int} (h : IsI w a0 len xs) (hb : Below w.heap.size w w') : IsI w' a0 len xs := by
  intro k hk
  obtain ⟨h1, b, o, h2, h3, h4⟩ := h k hk
  exact ⟨h1, b, o, h2, Nat.lt_of_lt_of_le h3 hb.size, (Below.cell hb h3).trans h4⟩
theorem IsI.some0 {w : World} {a0 : Option Addr} {len : Nat} {xs : Nat → Int} (h : IsI w a0 len xs) (h0 : 0 < len) : ∃ b o, a0 = some ⟨b, o, none⟩ := by
  obtain ⟨_, b, o, h2, _⟩ := h 0 h0
  exact ⟨b, o, h2⟩
theorem IsI.at0 {w : World} {b o len k : Nat} {xs : Nat → Int} (h : IsI w (some ⟨b, o, none⟩) len xs) (hk : k < len) : (-9223372036854775808 ≤ xs k ∧ xs k ≤ 9223372036854775807) ∧ b < w.heap.size ∧ w.cell? ⟨b, o + k, none⟩ = some (.int .i64 (xs k)) := by
  obtain ⟨h1, b', o', h2, h3, h4⟩ := h k hk
  cases h2
  exact ⟨h1, h3, h4⟩
theorem IsI.nil (w : World) (a0 : Option Addr) (xs : Nat → Int) : IsI w a0 0 xs := fun k hk => absurd hk (Nat.not_lt_zero k)
theorem IsI.congr {w : World} {a0 : Option Addr} {len : Nat} {xs ys : Nat → Int} (h : IsI w a0 len xs) (e : ∀ k, k < len → xs k = ys k) : IsI w a0 len ys := fun k hk => by rw [← e k hk]; exact h k hk
theorem add_off (b off j : Nat) : (⟨b, off, none⟩ : Addr).add j = ⟨b, off + j, none⟩ := by unfold Addr.add; split <;> simp_all
theorem row_in {w : World} {b n : Nat} {f : Nat → Int} (h : w.rowIs b 2 n (fun i => .int .i64 (f i))) (hf : ∀ i, i < n → -9223372036854775808 ≤ f i ∧ f i ≤ 9223372036854775807) : IsI w (some ⟨b, 0, none⟩) n f := fun k hk => ⟨hf k hk, b, 0, rfl, h.lt, by rw [Nat.zero_add]; exact h.cell hk⟩
theorem info64 : (Tryd.prog.info? 2).map (fun i => (i.zero, i.size, i.bytes)) = some (some (.int .i64 0), 1, 8) := by kernel_rfl
/-- a list of the call's own, of so many whole numbers -/
def Own (B : Nat) (v : Value) (l : List Int) (w : World) : Prop := w.ownsRow B 2 1 v l.length (l.map (Value.int .i64))
theorem Own.in {B : Nat} {v : Value} {l : List Int} {w : World} (h : Own B v l w) (hl : ∀ x ∈ l, -9223372036854775808 ≤ x ∧ x ≤ 9223372036854775807) : ∃ a0 cap, v = .slice a0 l.length cap ∧ IsI w a0 l.length (fun j => l.getD j 0) := by
  rcases h.2 with ⟨rfl, h0⟩ | ⟨g, cap, cur, rfl, hb, hg, h1, h2, h3, h4⟩
  · exact ⟨none, 0, by rw [h0], fun k hk => by omega⟩
  · refine ⟨some ⟨g, 0, none⟩, cap, rfl, fun k hk => ?_⟩
    have hx : l.getD k 0 = l[k] := by simp [List.getD, hk]
    refine ⟨by dsimp only; rw [hx]; exact hl _ (List.getElem_mem _), g, 0, rfl, lt_of_block hg, ?_⟩
    have e := h.cells (g := g) rfl k (.int .i64 (l.getD k 0)) (by simp [hk])
    rw [add_off] at e
    exact e
theorem Own.to {B : Nat} {v : Value} {l : List Int} {w w' : World} (h : Own B v l w) (hb : Ab w w') : Own B v l w' := by
  refine ⟨h.1, ?_⟩
  rcases h.2 with h0 | ⟨g, cap, cur, e, hb', hg, h1, h2, h3, h4⟩
  · exact .inl h0
  · exact .inr ⟨g, cap, cur, e, hb', hb.heap hg, h1, h2, h3, h4⟩
theorem info_i : ∃ i, Tryd.prog.info? 2 = some i ∧ i.zero = some (.int .i64 0) ∧ i.size = 1 ∧ i.bytes = 8 := by
  have h := info64
  cases e : Tryd.prog.info? 2 with
  | none => rw [e] at h; cases h
  | some i =>
    rw [e] at h
    simp at h
    exact ⟨i, rfl, h.1, h.2.1, h.2.2⟩
/-- all blocks of V but g are in w as they were -/
def Abo (V : World) (g : Nat) (w : World) : Prop := w.os = V.os ∧ w.tape = V.tape ∧ w.output = V.output ∧ V.heap.size ≤ w.heap.size ∧ ∀ k, k < V.heap.size → k ≠ g → w.heap[k]? = V.heap[k]?
theorem Abo.ab {w0 V w : World} {g : Nat} (h : Abo V g w) (a : Ab w0 V) (hg : w0.heap.size ≤ g) : Ab w0 w := by
  obtain ⟨h1, h2, h3, h4, h5⟩ := h
  exact ⟨h1.trans a.os, h2.trans a.tape, h3.trans a.output, Nat.le_trans (Below.size a) h4, fun k hk => (h5 k (Nat.lt_of_lt_of_le hk (Below.size a)) (by omega)).trans (a.block k hk)⟩
theorem Abo.refl (V : World) (g : Nat) : Abo V g V := ⟨rfl, rfl, rfl, Nat.le_refl _, fun _ _ _ => rfl⟩
theorem Abo.grown {V wr w' : World} {g : Nat} {O : Obj} {row : Option Nat} (h : Abo V g wr) (hg : (wr.alloc O).grownBy w' row) (hr : ∀ b, row = some b → b = g ∨ V.heap.size ≤ b) : Abo V g w' := by
  obtain ⟨h1, h2, h3, h4, h5⟩ := h
  have hs : (wr.alloc O).heap.size = wr.heap.size + 1 := by
    show (wr.heap.push O).size = _
    simp
  refine ⟨hg.os.trans h1, hg.tape.trans h2, hg.output.trans h3, by have := hg.size; omega, fun k hk hne => ?_⟩
  refine (hg.block k (by omega) (fun e => ?_)).trans ((Below.heap_alloc _ _ _ (by omega)).trans (h5 k hk hne))
  rcases hr k e.symm with h6 | h6
  · exact hne h6
  · omega
theorem Own.alloc {B : Nat} {v : Value} {l : List Int} {w : World} (h : Own B v l w) (O : Obj) : Own B v l (w.alloc O) := World.ownsRow.alloc h O
theorem own_new (w : World) (B : Nat) (hB : B ≤ w.heap.size) : Own B (.slice (some ⟨w.heap.size, 0, none⟩) 0 0) [] (w.alloc (.cells #[] 2)) :=
  ⟨by simp, .inr ⟨w.heap.size, 0, #[], rfl, hB, heap_alloc_new _ _, Nat.le_refl _, by unfold maxLen; omega, by simp, by simp⟩⟩
theorem wpList_app {ops : Array Oper} {rest : List Oper} {o : Oper} {a : Act} {w : World} {Q : Exit → Act → World → Prop} (hgd : o.guard = none) (s x : Operand)
    (ho : o.op = .call { callee := .builtin .append, args := #[s, x], argTypes := #[22, 22] })
    (B : Nat) (v : Value) (l : List Int) (hs : a.eval s = v) (hown : Own B v l w)
    (ad : Addr) (m c : Nat) (news : List Int) (hx : a.eval x = .slice (some ad) m c) (hl : news.length = m) (hnews : ∀ j u, (news.map (Value.int .i64))[j]? = some u → w.cell? (ad.add j) = some u)
    (hm : 0 < m) (hlen : l.length + m ≤ 1048576) (hB : B ≤ w.heap.size) (nm : Nat) (hnm : l.length + m = nm)
    (h : ∀ g cap w', Own B (.slice (some ⟨g, 0, none⟩) nm cap) (l ++ news) w' → w.grownBy w' v.ownBlock → (v.ownBlock = some g ∨ g = w.heap.size) → B ≤ g → wpList Tryd.prog ops Q rest (a.put o.dst (.slice (some ⟨g, 0, none⟩) nm cap)) w') : wpList Tryd.prog ops Q (o :: rest) a w := by
  subst hnm
  obtain ⟨i0, hi, hz0, hz1, hz2⟩ := info_i
  refine wpList_append_lies w hgd s x _ ho B 2 i0 (.int .i64 0) 1 8 Tryd.underlying22 hi hz0 hz1 hz2 rfl (by decide) v l.length (l.map (Value.int .i64)) hs hown ad m c (news.map (Value.int .i64)) hx (by simpa using hl) hnews (fun u hu => by
    obtain ⟨y, _, rfl⟩ := List.mem_map.1 hu
    rfl) hm (by unfold maxLen; omega) (by omega) hB _ rfl ?_
  intro g cap w' o1 g1 e1 _
  have hb : B ≤ g := by
    rcases o1.2 with ⟨q, _⟩ | ⟨g2, _, _, q, hb, _⟩
    · cases q
    · injection q with q1 q2 q3
      injection q1 with q4
      injection q4 with q5
      omega
  refine h g cap w' ?_ g1 e1 hb
  unfold Own
  rw [List.length_append, List.map_append, hl]
  exact o1
end Sh
end Go.Proofs.YtapklbfcjgpkdaaDoor

namespace Go.Proofs.YtapklbfcjgpkdaaDoor
open Go.RowKit Go.Deep Cu
namespace Ms
open Sh
/-- within 64 bits -/
def W64 (x : Int) : Prop := -9223372036854775808 ≤ x ∧ x ≤ 9223372036854775807
/-- whether the lists fit -/
def fit2 (n lw lf : Nat) : Prop := lw = 6 * n * n ∧ lf = 12 * n * n
/-- whether what comes out can be -/
def can (n : Nat) (W F : Nat → Int) : Prop := ∀ c, c < 6 * n * n → 0 ≤ mv n W F c ∧ mv n W F c ≤ 9223372036854775807
/-- what Move is to answer -/
def MoveC : Prop := ∀ (n gb : Nat) (pw : Option Addr) (lw cw : Nat) (W : Nat → Int) (pf : Option Addr) (lf cf : Nat) (F : Nat → Int) (w : World), (1 ≤ n ∧ n ≤ 32) → GridOf n gb w → lw ≤ 9223372036854775807 → lf ≤ 9223372036854775807 → IsI w pw lw W → IsI w pf lf F →
    (fit2 n lw lf → can n W F → Calls Tryd.prog 5 #[.pointer (some ⟨gb, 0, none⟩), .slice pw lw cw, .slice pf lf cf] w fun e w' => ∃ v, e = .returned (.tuple #[v, .int .i64 0]) ∧ Below w.heap.size w w' ∧ Own w.heap.size v ((List.range (6 * n * n)).map (mv n W F)) w') ∧
    (fit2 n lw lf → ¬ can n W F → Calls Tryd.prog 5 #[.pointer (some ⟨gb, 0, none⟩), .slice pw lw cw, .slice pf lf cf] w fun e w' => e = .returned (.tuple #[.slice none 0 0, .int .i64 20]) ∧ Below w.heap.size w w') ∧
    (¬ fit2 n lw lf → Calls Tryd.prog 5 #[.pointer (some ⟨gb, 0, none⟩), .slice pw lw cw, .slice pf lf cf] w fun e w' => e = .returned (.tuple #[.slice none 0 0, .int .i64 1]) ∧ Below w.heap.size w w')
/-- what Move of no net is to answer -/
def MoveN : Prop := ∀ (pw : Option Addr) (lw cw : Nat) (pf : Option Addr) (lf cf : Nat) (w : World), Calls Tryd.prog 5 #[.pointer none, .slice pw lw cw, .slice pf lf cf] w fun e w' => e = .returned (.tuple #[.slice none 0 0, .int .i64 2]) ∧ Below w.heap.size w w'
/-- what Total is to answer -/
def TotalC : Prop := ∀ (pw : Option Addr) (lw cw : Nat) (W : Nat → Int) (pm : Option Addr) (lm cm : Nat) (M : Nat → Int) (w : World), lw ≤ 17592186044416 → lm ≤ 17592186044416 → IsI w pw lw W → IsI w pm lm M →
    (W64 (sumN W lw + sumN M lm) → Calls Tryd.prog 12 #[.slice pw lw cw, .slice pm lm cm] w fun e w' => e = .returned (.tuple #[.int .i64 (sumN W lw + sumN M lm), .int .i64 0]) ∧ Below w.heap.size w w') ∧
    (¬ W64 (sumN W lw + sumN M lm) → Calls Tryd.prog 12 #[.slice pw lw cw, .slice pm lm cm] w fun e w' => e = .returned (.tuple #[.int .i64 0, .int .i64 20]) ∧ Below w.heap.size w w')
/-- the list that Move answers, read -/
theorem own_mv {B m : Nat} {v : Value} {f : Nat → Int} {w : World} (h : Own B v ((List.range m).map f) w) (hf : ∀ c, c < m → 0 ≤ f c ∧ f c ≤ 9223372036854775807) : ∃ a0 cap, v = .slice a0 m cap ∧ IsI w a0 m f := by
  obtain ⟨a0, cap, e, i⟩ := h.in (fun x hx => by
    obtain ⟨j, hj, rfl⟩ := List.mem_map.1 hx
    have := hf j (List.mem_range.1 hj)
    omega)
  rw [List.length_map, List.length_range] at e i
  exact ⟨a0, cap, e, i.congr (fun k hk => by simp [List.getD, hk])⟩
end Ms
end Go.Proofs.YtapklbfcjgpkdaaDoor

namespace Go.Proofs.YtapklbfcjgpkdaaDoor
open Go.RowKit Go.Deep
namespace Ms
open Sh
set_option maxRecDepth 100000 in
set_option maxHeartbeats 4000000 in
theorem same_at (pa pb : Option Addr) (len ca cb : Nat) (xs : Nat → Int) (w : World) (hl : len ≤ 281474976710656) (hA : IsI w pa len xs) (hB : IsI w pb len xs) :
    Calls Tryd.prog 9 #[.slice pa len ca, .slice pb len cb] w fun e w' => e = .returned (.bool true) ∧ Below w.heap.size w w' := by
  have HA := hid hA
  have HB := hid hB
  have HL := hid hl
  clear hA hB hl
  go_enter Tryd.func9, Tryd.ntmps9
  go_wp2
  go_loopw [5] (fun iv wr => ∃ c : Nat, c ≤ len ∧ iv = .int .i64 (c : Nat) ∧ Ab w wr) (fun iv _ => len - (intOf iv).toNat)
  case atStart => exact ⟨0, by omega, rfl, Ab.refl w⟩
  case round =>
    obtain ⟨c, hc, rfl, ar⟩ := hrel
    have AR := hid ar
    clear ar
    by_cases h : c < len
    · have HC := hid h
      obtain ⟨x, hx⟩ : ∃ x, xs c = x := ⟨_, rfl⟩
      obtain ⟨-, b1, o1, e1, l1, c1⟩ := HA.out c h
      obtain ⟨-, b2, o2, e2, l2, c2⟩ := HB.out c h
      rw [hx] at c1 c2
      have C1 := hid c1
      have C2 := hid c2
      have L1 := hid l1
      have L2 := hid l2
      have hcI : (c : Int) < len := by omega
      have hcB : (c : Int) ≤ 281474976710656 := by have := HL.out; omega
      clear c1 c2 l1 l2 hx h
      subst e1 e2
      go_upto_region 6 with fail
      obtain ⟨UU, E, hF1, hF2⟩ := cls wr
      have HU := hid hF2
      have HU1 := hid hF1
      have x1 : ∀ u, (E u).cell? ⟨b1, o1 + c, none⟩ = some (.int .i64 x) := fun u => (Below.cell (AR.out.trans (hF1 u)) L1.out).trans C1.out
      have x2 : ∀ u, (E u).cell? ⟨b2, o2 + c, none⟩ = some (.int .i64 x) := fun u => (Below.cell (AR.out.trans (hF1 u)) L2.out).trans C2.out
      have DD0 := HU.out _ (Ab.refl wr).drew
      clear hF1 hF2
      refine region_cls E (by kernel_rfl) (by kernel_rfl) DD0 ?_
      repeat (go_big_quiet_step (with_reducible rfl))
      refine wpQuiet_nil ?_
      intro z hwz
      obtain ⟨u0, hu⟩ := hwz
      have AZ : Hid (Ab w z) := by rw [hu]; exact AR.out.trans (HU1.out u0)
      clear hu u0
      clear HU HU1 DD0 x1 x2
      clear E UU
      go_wp2
      go_roundw
      case rel => exact ⟨c + 1, by have := HC.out; omega, by simp, AZ.out⟩
      case measure => simp [intOf]; have := HC.out; omega
    · have e : len = c := by omega
      subst e
      go_wp2
      go_ret
      exact ⟨rfl, AR.out⟩
end Ms
end Go.Proofs.YtapklbfcjgpkdaaDoor

namespace Go.Proofs.YtapklbfcjgpkdaaDoor
open Go.RowKit Go.Deep Cu
namespace Ms
open Sh
set_option maxRecDepth 100000 in
set_option maxHeartbeats 4000000 in
theorem one_at (N k : Nat) (q : Int) (w : World) (hN : N ≤ 65536) (hk : k < N) :
    Calls Tryd.prog 11 #[.int .i64 (N : Nat), .int .i64 (k : Nat), .int .i64 q] w fun e w' => ∃ b, e = .returned (.slice (some ⟨b, 0, none⟩) N N) ∧ Below w.heap.size w w' ∧ w'.rowIs b 2 N (fun i => .int .i64 (oneF k q i)) ∧ w.heap.size ≤ b := by
  have MK := run_make_row' (P := Tryd.prog) 22 2 (.int .i64 0) 8 Tryd.underlying22 info64 rfl .i64 .i64 N (by omega) (by omega) w
  obtain ⟨ob, hob⟩ : ∃ b, w.heap.size = b := ⟨_, rfl⟩
  have R0 : (w.alloc (.cells (madeCells #[.int .i64 0] N) 2)).rowIs ob 2 N (fun _ => .int .i64 0) := by rw [← hob]; exact World.rowIs_made _ _ _ _
  have A0 : Hid (Ab w (w.alloc (.cells (madeCells #[.int .i64 0] N) 2))) := bl1 w _
  have HO : Hid (w.heap.size ≤ ob) := Nat.le_of_eq hob
  have kI : (k : Int) < N := by omega
  have z1 := R0.cell hk
  have z2 := R0.frozen k
  have RW := hid R0
  clear R0
  generalize w.alloc (.cells (madeCells #[.int .i64 0] N) 2) = wm at *
  go_enter Tryd.func11, Tryd.ntmps11
  go_wp2
  go_ret
  refine ⟨ob, rfl, Ab.set A0.out HO.out _, (RW.out.set k _).congr (fun i _ => ?_), HO.out⟩
  unfold oneF
  by_cases e : i = k <;> simp [e]
end Ms
end Go.Proofs.YtapklbfcjgpkdaaDoor

namespace Go.Proofs.YtapklbfcjgpkdaaDoor
open Go.RowKit Go.Deep Cu
namespace Ms
open Sh
theorem lit_in (w : World) (l : List Int) (hl : ∀ x ∈ l, W64 x) : IsI (w.alloc (.cells (l.map (Value.int .i64)).toArray 2)) (some ⟨w.heap.size, 0, none⟩) l.length (fun i => l.getD i 0) := fun k hk => by
  have h := heap_alloc_new w (.cells (l.map (Value.int .i64)).toArray 2)
  refine ⟨?_, w.heap.size, 0, rfl, lt_of_block h, ?_⟩
  · have e : l.getD k 0 = l[k] := by simp [List.getD, hk]
    dsimp only
    rw [e]
    exact hl _ (List.getElem_mem _)
  · rw [Nat.zero_add]
    refine (cell_of_row _ _ k _ _ _ h).trans ?_
    simp [hk, List.getD]
def w5 (i : Nat) : Int := [5, 0, 0, 0, 0, 0].getD i 0
theorem aw_mv : (List.range (6 * 1 * 1)).map (mv 1 w5 (oneF 0 3)) = [2, 3, 0, 0, 0, 0] := by decide +kernel
theorem aw_can : can 1 w5 (oneF 0 3) := by
  intro c hc
  have h : ∀ c, c < 6 → 0 ≤ mv 1 w5 (oneF 0 3) c ∧ mv 1 w5 (oneF 0 3) c ≤ 9223372036854775807 := by decide +kernel
  exact h c (by omega)
theorem aw_not : ¬ can 1 w5 (oneF 0 6) := fun h => by
  have h0 := (h 0 (by omega)).1
  have e : mv 1 w5 (oneF 0 6) 0 = -1 := by decide +kernel
  omega
set_option maxRecDepth 100000 in
set_option maxHeartbeats 16000000 in
theorem awake_at (MC : MoveC) (TC : TotalC) (w : World) (hF : Fr w) :
    Calls Tryd.prog 4 #[] w fun e w' => e = .returned (.bool true) ∧ Below w.heap.size w w' := by
  have NW : Hid (Calls Tryd.prog 6 #[.int .i64 1] w fun e w' => ∃ gb, e = .returned (.tuple #[.pointer (some ⟨gb, 0, none⟩), .int .i64 0]) ∧ Ab w w' ∧ w.heap.size ≤ gb ∧ GridOf 1 gb w') := new_at 1 w ⟨by omega, by omega⟩ hF
  have O3 : Hid (∀ v, Calls Tryd.prog 11 #[.int .i64 12, .int .i64 0, .int .i64 3] v fun e w' => ∃ b, e = .returned (.slice (some ⟨b, 0, none⟩) 12 12) ∧ Below v.heap.size v w' ∧ w'.rowIs b 2 12 (fun i => .int .i64 (oneF 0 3 i)) ∧ v.heap.size ≤ b) := fun v => one_at 12 0 3 v (by omega) (by omega)
  have O6 : Hid (∀ v, Calls Tryd.prog 11 #[.int .i64 12, .int .i64 0, .int .i64 6] v fun e w' => ∃ b, e = .returned (.slice (some ⟨b, 0, none⟩) 12 12) ∧ Below v.heap.size v w' ∧ w'.rowIs b 2 12 (fun i => .int .i64 (oneF 0 6 i)) ∧ v.heap.size ≤ b) := fun v => one_at 12 0 6 v (by omega) (by omega)
  have L5 : Hid (∀ v : World, IsI (v.alloc (.cells #[.int .i64 5, .int .i64 0, .int .i64 0, .int .i64 0, .int .i64 0, .int .i64 0] 2)) (some ⟨v.heap.size, 0, none⟩) 6 w5) := fun v => lit_in v [5, 0, 0, 0, 0, 0] (fun x hx => by simp at hx; unfold W64; omega)
  have L2 : Hid (∀ v : World, IsI (v.alloc (.cells #[.int .i64 2, .int .i64 3, .int .i64 0, .int .i64 0, .int .i64 0, .int .i64 0] 2)) (some ⟨v.heap.size, 0, none⟩) 6 (fun i => [2, 3, 0, 0, 0, 0].getD i 0)) := fun v => lit_in v [2, 3, 0, 0, 0, 0] (fun x hx => by simp at hx; unfold W64; omega)
  have T1 : Hid (∀ v : World, Calls Tryd.prog 12 #[.slice (some ⟨v.heap.size, 0, none⟩) 2 2, .slice (some ⟨v.heap.size + 1, 0, none⟩) 1 1] ((v.alloc (.cells #[.int .i64 9223372036854775807, .int .i64 1] 2)).alloc (.cells #[.int .i64 (-1)] 2)) fun e w' => e = .returned (.tuple #[.int .i64 9223372036854775807, .int .i64 0]) ∧ Ab v w') := fun v => by
    have i1 := (lit_in v [9223372036854775807, 1] (fun x hx => by simp at hx; unfold W64; omega)).below (bl1 _ (.cells #[.int .i64 (-1)] 2))
    have i2 := lit_in (v.alloc (.cells #[.int .i64 9223372036854775807, .int .i64 1] 2)) [-1] (fun x hx => by simp at hx; unfold W64; omega)
    rw [show (v.alloc (.cells #[.int .i64 9223372036854775807, .int .i64 1] 2)).heap.size = v.heap.size + 1 by simp] at i2
    refine ((TC (some ⟨v.heap.size, 0, none⟩) 2 2 _ (some ⟨v.heap.size + 1, 0, none⟩) 1 1 _ _ (by omega) (by omega) i1 i2).1 (show W64 9223372036854775807 by unfold W64; omega)).mono ?_
    rintro e w' ⟨rfl, b⟩
    exact ⟨rfl, Ab.trans (bl2 _ _ _) b⟩
  have T2 : Hid (∀ v : World, Calls Tryd.prog 12 #[.slice (some ⟨v.heap.size, 0, none⟩) 2 2, .slice none 0 0] (v.alloc (.cells #[.int .i64 9223372036854775807, .int .i64 1] 2)) fun e w' => e = .returned (.tuple #[.int .i64 0, .int .i64 20]) ∧ Ab v w') := fun v => by
    have i1 := lit_in v [9223372036854775807, 1] (fun x hx => by simp at hx; unfold W64; omega)
    refine ((TC (some ⟨v.heap.size, 0, none⟩) 2 2 _ none 0 0 (fun _ => 0) _ (by omega) (by omega) i1 (IsI.nil _ _ _)).2 (show ¬ W64 9223372036854775808 by unfold W64; omega)).mono ?_
    rintro e w' ⟨rfl, b⟩
    exact ⟨rfl, Ab.trans (bl1 _ _) b⟩
  have HM := hid MC
  clear MC TC hF
  go_enter Tryd.func4, Tryd.ntmps4
  go_wp2_with fail
  refine NW.out.mono ?_
  rintro e9 v1 ⟨gb, rfl, a1, -, g1⟩
  have A1 := hid a1
  have G1 := hid g1
  have ED : Hid (Calls Tryd.prog 10 #[.pointer (some ⟨gb, 0, none⟩)] v1 fun e w' => e = .returned (.int .i64 12) ∧ w' = v1) := gEdges_at g1
  clear a1 g1 NW
  go_wp2_with fail
  refine ED.out.mono ?_
  rintro e9 v9 ⟨rfl, hv9⟩
  have hv8 := hv9.symm
  subst hv8
  clear ED
  go_wp2_with fail
  refine (O3.out _).mono ?_
  rintro e9 v2 ⟨b, rfl, b2, r2, l2⟩
  have A2 : Hid (Ab v1 v2) := Ab.trans (bl1 v1 _) b2
  have I2 := hid ((L5.out v1).below b2)
  have R2 := hid r2
  have M1 := hid ((HM.out 1 gb (some ⟨v1.heap.size, 0, none⟩) 6 6 w5 (some ⟨b, 0, none⟩) 12 12 (oneF 0 3) v2 ⟨by omega, by omega⟩ (G1.out.to A2.out) (by omega) (by omega) I2.out (row_in R2.out (fun i _ => by unfold oneF; split <;> omega))).1 ⟨rfl, rfl⟩ aw_can)
  rw [aw_mv] at M1
  clear b2 r2 l2 I2 R2
  go_wp2_with fail
  refine M1.out.mono ?_
  rintro e9 v3 ⟨lv, rfl, b3, o3⟩
  obtain ⟨a0, cap, hlv, i3⟩ := o3.in (fun x hx => by simp at hx; omega)
  subst hlv
  have A3 : Hid (Ab v1 v3) := A2.out.trans b3
  have I3 := hid i3
  clear b3 o3 i3 M1 A2
  go_wp2_with fail
  refine (O6.out _).mono ?_
  rintro e9 v4 ⟨b', rfl, b4, r4, l4⟩
  have A4 : Hid (Ab v3 v4) := Ab.trans (bl1 v3 _) b4
  have I4 := hid ((L5.out v3).below b4)
  have R4 := hid r4
  have M2 := hid ((HM.out 1 gb (some ⟨v3.heap.size, 0, none⟩) 6 6 w5 (some ⟨b', 0, none⟩) 12 12 (oneF 0 6) v4 ⟨by omega, by omega⟩ (G1.out.to (A3.out.trans A4.out)) (by omega) (by omega) I4.out (row_in R4.out (fun i _ => by unfold oneF; split <;> omega))).2.1 ⟨rfl, rfl⟩ aw_not)
  clear b4 r4 l4 I4 R4
  go_wp2_with fail
  refine M2.out.mono ?_
  rintro e9 v5 ⟨rfl, b5⟩
  have A5 : Hid (Ab v3 v5) := A4.out.trans b5
  clear b5 M2 A4
  go_wp2_with fail
  refine (T1.out v5).mono ?_
  rintro e9 v6 ⟨rfl, a6⟩
  have A6 : Hid (Ab v3 v6) := A5.out.trans a6
  clear a6 A5
  go_wp2_with fail
  refine (T2.out v6).mono ?_
  rintro e9 v7 ⟨rfl, a7⟩
  have A7 : Hid (Ab v3 v7) := A6.out.trans a7
  clear a7 A6
  have S3 := hid (same_at a0 (some ⟨v7.heap.size, 0, none⟩) 6 cap 6 _ (v7.alloc (.cells #[.int .i64 2, .int .i64 3, .int .i64 0, .int .i64 0, .int .i64 0, .int .i64 0] 2)) (by omega) (I3.out.below (A7.out.alloc _)) (L2.out v7))
  go_wp2_with fail
  refine S3.out.mono ?_
  rintro e9 v8 ⟨rfl, b8⟩
  have A8 : Hid (Ab w v8) := A1.out.trans (A3.out.trans ((A7.out.alloc _).trans b8))
  clear b8
  go_wp2
  go_ret
  exact ⟨rfl, A8.out⟩
end Ms
end Go.Proofs.YtapklbfcjgpkdaaDoor

namespace Go.Proofs.YtapklbfcjgpkdaaDoor
open Go.RowKit Go.Deep Cu
namespace Ms
open Sh
/-- four words of a sum of the reference -/
def Four (w : World) (b : Nat) (i0 i1 i2 i3 : Int) : Prop := w.heap[b]? = some (.cells #[.int .u64 i0, .int .u64 i1, .int .u64 i2, .int .u64 i3] 74)
theorem Four.frz {w : World} {b : Nat} {i0 i1 i2 i3 : Int} (h : Four w b i0 i1 i2 i3) (k : Nat) : w.frozen? ⟨b, k, none⟩ = false := by
  have r : w.rowIs b 74 4 (fun k => (#[.int .u64 i0, .int .u64 i1, .int .u64 i2, .int .u64 i3] : Array Value).getD k (.bool false)) := ⟨_, h, rfl, fun i hi => by
    match i, hi with
    | 0, _ => rfl
    | 1, _ => rfl
    | 2, _ => rfl
    | 3, _ => rfl⟩
  exact r.frozen k
theorem abo_set (w : World) (g k : Nat) (v : Value) : Abo w g (w.setCell ⟨g, k, none⟩ v) := ⟨rfl, rfl, rfl, by simp [World.setCell], fun i _ hne => Below.heap_setCell _ _ _ _ hne⟩
theorem Abo.trans {u v w : World} {g : Nat} (h : Abo u g v) (k : Abo v g w) : Abo u g w := by
  obtain ⟨h1, h2, h3, h4, h5⟩ := h
  obtain ⟨k1, k2, k3, k4, k5⟩ := k
  exact ⟨k1.trans h1, k2.trans h2, k3.trans h3, Nat.le_trans h4 k4, fun i hi hne => (k5 i (by omega) hne).trans (h5 i hi hne)⟩
set_option maxRecDepth 100000 in
set_option maxHeartbeats 8000000 in
theorem badd_pos (b : Nat) (i0 i1 i2 i3 x mh ml : Int) (w : World) (R : Hid (Four w b i0 i1 i2 i3))
    (hx : 0 ≤ x) (hx2 : x ≤ 9223372036854775807) (b00 : 0 ≤ i0) (b01 : i0 ≤ 4611686018427387904) (b10 : 0 ≤ i1) (b11 : i1 ≤ 9223372036854775808) (e1 : x / 4294967296 = mh) (e2 : x % 4294967296 = ml) :
    Calls Tryd.prog 31 #[.pointer (some ⟨b, 0, none⟩), .int .i64 x] w fun e w' => e = .returned (.tuple #[]) ∧ Abo w b w' ∧ Four w' b (i0 + mh) (i1 + ml) i2 i3 := by
  have d : decide (x < 0) = false := decide_eq_false (by omega)
  have p0 : 0 ≤ mh ∧ mh ≤ 2147483648 := by omega
  have p1 : 0 ≤ ml ∧ ml < 4294967296 := by omega
  have p00 := p0.1
  have p01 := p0.2
  have p10 := p1.1
  have p11 := p1.2
  clear p0 p1
  have c0 := cell_of_row _ _ 0 _ _ _ R.out
  have c1 := cell_of_row _ _ 1 _ _ _ R.out
  have z0 := R.out.frz 0
  have z1 := R.out.frz 1
  go_enter Tryd.func31, Tryd.ntmps31
  go_wp2
  go_end0
  exact ⟨rfl, Abo.trans (abo_set _ _ _ _) (abo_set _ _ _ _), one_set (one_set R.out)⟩
set_option maxRecDepth 100000 in
set_option maxHeartbeats 8000000 in
theorem badd_neg (b : Nat) (i0 i1 i2 i3 x mh ml : Int) (w : World) (R : Hid (Four w b i0 i1 i2 i3))
    (hx : x < 0) (hx2 : -9223372036854775808 ≤ x) (b00 : 0 ≤ i2) (b01 : i2 ≤ 4611686018427387904) (b10 : 0 ≤ i3) (b11 : i3 ≤ 9223372036854775808) (e1 : -x / 4294967296 = mh) (e2 : -x % 4294967296 = ml) :
    Calls Tryd.prog 31 #[.pointer (some ⟨b, 0, none⟩), .int .i64 x] w fun e w' => e = .returned (.tuple #[]) ∧ Abo w b w' ∧ Four w' b i0 i1 (i2 + mh) (i3 + ml) := by
  have d : decide (x < 0) = true := decide_eq_true hx
  have p0 : 0 ≤ mh ∧ mh ≤ 2147483648 := by omega
  have p1 : 0 ≤ ml ∧ ml < 4294967296 := by omega
  have p00 := p0.1
  have p01 := p0.2
  have p10 := p1.1
  have p11 := p1.2
  clear p0 p1
  obtain ⟨m, hm⟩ : ∃ m, -x = m := ⟨_, rfl⟩
  have q1 : -(x + 1) + 1 = m := by omega
  have m0 : 0 < m := by omega
  have m1 : m ≤ 9223372036854775808 := by omega
  obtain rfl : x = -m := by omega
  rw [hm] at e1 e2
  clear hm
  have c0 := cell_of_row _ _ 2 _ _ _ R.out
  have c1 := cell_of_row _ _ 3 _ _ _ R.out
  have z0 := R.out.frz 2
  have z1 := R.out.frz 3
  go_enter Tryd.func31, Tryd.ntmps31
  go_wp2
  refine bodyPost_ret (results_none rfl _ _ _) rfl ?_
  exact ⟨rfl, Abo.trans (abo_set _ _ _ _) (abo_set _ _ _ _), one_set (one_set R.out)⟩
set_option maxRecDepth 100000 in
set_option maxHeartbeats 8000000 in
theorem btake_pos (b : Nat) (i0 i1 i2 i3 x mh ml : Int) (w : World) (R : Hid (Four w b i0 i1 i2 i3))
    (hx : 0 ≤ x) (hx2 : x ≤ 9223372036854775807) (b00 : 0 ≤ i2) (b01 : i2 ≤ 4611686018427387904) (b10 : 0 ≤ i3) (b11 : i3 ≤ 9223372036854775808) (e1 : x / 4294967296 = mh) (e2 : x % 4294967296 = ml) :
    Calls Tryd.prog 33 #[.pointer (some ⟨b, 0, none⟩), .int .i64 x] w fun e w' => e = .returned (.tuple #[]) ∧ Abo w b w' ∧ Four w' b i0 i1 (i2 + mh) (i3 + ml) := by
  have d : decide (x < 0) = false := decide_eq_false (by omega)
  have p0 : 0 ≤ mh ∧ mh ≤ 2147483648 := by omega
  have p1 : 0 ≤ ml ∧ ml < 4294967296 := by omega
  have p00 := p0.1
  have p01 := p0.2
  have p10 := p1.1
  have p11 := p1.2
  clear p0 p1
  have c0 := cell_of_row _ _ 2 _ _ _ R.out
  have c1 := cell_of_row _ _ 3 _ _ _ R.out
  have z0 := R.out.frz 2
  have z1 := R.out.frz 3
  go_enter Tryd.func33, Tryd.ntmps33
  go_wp2
  go_end0
  exact ⟨rfl, Abo.trans (abo_set _ _ _ _) (abo_set _ _ _ _), one_set (one_set R.out)⟩
set_option maxRecDepth 100000 in
set_option maxHeartbeats 8000000 in
theorem btake_neg (b : Nat) (i0 i1 i2 i3 x mh ml : Int) (w : World) (R : Hid (Four w b i0 i1 i2 i3))
    (hx : x < 0) (hx2 : -9223372036854775808 ≤ x) (b00 : 0 ≤ i0) (b01 : i0 ≤ 4611686018427387904) (b10 : 0 ≤ i1) (b11 : i1 ≤ 9223372036854775808) (e1 : -x / 4294967296 = mh) (e2 : -x % 4294967296 = ml) :
    Calls Tryd.prog 33 #[.pointer (some ⟨b, 0, none⟩), .int .i64 x] w fun e w' => e = .returned (.tuple #[]) ∧ Abo w b w' ∧ Four w' b (i0 + mh) (i1 + ml) i2 i3 := by
  have d : decide (x < 0) = true := decide_eq_true hx
  have p0 : 0 ≤ mh ∧ mh ≤ 2147483648 := by omega
  have p1 : 0 ≤ ml ∧ ml < 4294967296 := by omega
  have p00 := p0.1
  have p01 := p0.2
  have p10 := p1.1
  have p11 := p1.2
  clear p0 p1
  obtain ⟨m, hm⟩ : ∃ m, -x = m := ⟨_, rfl⟩
  have q1 : -(x + 1) + 1 = m := by omega
  have m0 : 0 < m := by omega
  have m1 : m ≤ 9223372036854775808 := by omega
  obtain rfl : x = -m := by omega
  rw [hm] at e1 e2
  clear hm
  have c0 := cell_of_row _ _ 0 _ _ _ R.out
  have c1 := cell_of_row _ _ 1 _ _ _ R.out
  have z0 := R.out.frz 0
  have z1 := R.out.frz 1
  go_enter Tryd.func33, Tryd.ntmps33
  go_wp2
  refine bodyPost_ret (results_none rfl _ _ _) rfl ?_
  exact ⟨rfl, Abo.trans (abo_set _ _ _ _) (abo_set _ _ _ _), one_set (one_set R.out)⟩
/-- a sum of the reference, of so many numbers -/
def IsBig (w : World) (b k : Nat) (S : Int) : Prop := ∃ i0 i1 i2 i3 : Int, Four w b i0 i1 i2 i3 ∧ (0 ≤ i0 ∧ i0 ≤ 2147483648 * (k : Int)) ∧ (0 ≤ i1 ∧ i1 ≤ 4294967296 * (k : Int)) ∧ (0 ≤ i2 ∧ i2 ≤ 2147483648 * (k : Int)) ∧ (0 ≤ i3 ∧ i3 ≤ 4294967296 * (k : Int)) ∧ i0 * 4294967296 + i1 - (i2 * 4294967296 + i3) = S
/-- a number more -/
theorem badd_at (b k : Nat) (S x : Int) (w : World) (h : IsBig w b k S) (hk : k < 2147483648) (hx : W64 x) :
    Calls Tryd.prog 31 #[.pointer (some ⟨b, 0, none⟩), .int .i64 x] w fun e w' => e = .returned (.tuple #[]) ∧ Abo w b w' ∧ IsBig w' b (k + 1) (S + x) := by
  obtain ⟨i0, i1, i2, i3, R, b0, b1, b2, b3, e⟩ := h
  unfold W64 at hx
  by_cases c : x < 0
  · refine (badd_neg b i0 i1 i2 i3 x _ _ w R c hx.1 (by omega) (by omega) (by omega) (by omega) rfl rfl).mono ?_
    rintro e' w' ⟨rfl, a, r⟩
    exact ⟨rfl, a, _, _, _, _, r, by omega, by omega, by omega, by omega, by omega⟩
  · refine (badd_pos b i0 i1 i2 i3 x _ _ w R (by omega) hx.2 (by omega) (by omega) (by omega) (by omega) rfl rfl).mono ?_
    rintro e' w' ⟨rfl, a, r⟩
    exact ⟨rfl, a, _, _, _, _, r, by omega, by omega, by omega, by omega, by omega⟩
/-- a number less -/
theorem btake_at (b k : Nat) (S x : Int) (w : World) (h : IsBig w b k S) (hk : k < 2147483648) (hx : W64 x) :
    Calls Tryd.prog 33 #[.pointer (some ⟨b, 0, none⟩), .int .i64 x] w fun e w' => e = .returned (.tuple #[]) ∧ Abo w b w' ∧ IsBig w' b (k + 1) (S - x) := by
  obtain ⟨i0, i1, i2, i3, R, b0, b1, b2, b3, e⟩ := h
  unfold W64 at hx
  by_cases c : x < 0
  · refine (btake_neg b i0 i1 i2 i3 x _ _ w R c hx.1 (by omega) (by omega) (by omega) (by omega) rfl rfl).mono ?_
    rintro e' w' ⟨rfl, a, r⟩
    exact ⟨rfl, a, _, _, _, _, r, by omega, by omega, by omega, by omega, by omega⟩
  · refine (btake_pos b i0 i1 i2 i3 x _ _ w R (by omega) hx.2 (by omega) (by omega) (by omega) (by omega) rfl rfl).mono ?_
    rintro e' w' ⟨rfl, a, r⟩
    exact ⟨rfl, a, _, _, _, _, r, by omega, by omega, by omega, by omega, by omega⟩
set_option maxRecDepth 100000 in
set_option maxHeartbeats 16000000 in
theorem value_go (b : Nat) (i0 i1 i2 i3 ah al bh bl S X : Int) (ok : Bool) (w : World) (R : Hid (Four w b i0 i1 i2 i3)) (b00 : 0 ≤ i0) (b01 : i0 ≤ 4611686018427387904) (b10 : 0 ≤ i1) (b11 : i1 ≤ 9223372036854775808) (b20 : 0 ≤ i2) (b21 : i2 ≤ 4611686018427387904) (b30 : 0 ≤ i3) (b31 : i3 ≤ 9223372036854775808)
    (e0 : i0 + i1 / 4294967296 = ah) (e1 : i1 % 4294967296 = al) (e2 : i2 + i3 / 4294967296 = bh) (e3 : i3 % 4294967296 = bl) (HS : Hid (ah * 4294967296 + al - (bh * 4294967296 + bl) = S))
    (HY : Hid (W64 S → X = S ∧ ok = true)) (HN : Hid (¬ W64 S → X = 0 ∧ ok = false)) :
    Calls Tryd.prog 34 #[.pointer (some ⟨b, 0, none⟩)] w fun e w' => e = .returned (.tuple #[.int .i64 X, .bool ok]) ∧ Below w.heap.size w w' := by
  have c0 := cell_of_row _ _ 0 _ _ _ R.out
  have c1 := cell_of_row _ _ 1 _ _ _ R.out
  have c2 := cell_of_row _ _ 2 _ _ _ R.out
  have c3 := cell_of_row _ _ 3 _ _ _ R.out
  have hS := HS.out
  have a0 : 0 ≤ ah := by omega
  have a1 : ah ≤ 9223372036854775808 := by omega
  have a2 : 0 ≤ al := by omega
  have a3 : al < 4294967296 := by omega
  have f0 : 0 ≤ bh := by omega
  have f1 : bh ≤ 9223372036854775808 := by omega
  have f2 : 0 ≤ bl := by omega
  have f3 : bl < 4294967296 := by omega
  clear HS
  go_enter Tryd.func34, Tryd.ntmps34
  by_cases q1 : ah < bh
  · have g1 : decide (ah < bh) = true := decide_eq_true q1
    by_cases q2 : bl < al
    · have g2 : decide (bl < al) = true := decide_eq_true q2
      obtain ⟨h, hh⟩ : ∃ h, bh - 1 - ah = h := ⟨_, rfl⟩
      obtain ⟨l, hl⟩ : ∃ l, bl + 4294967296 - al = l := ⟨_, rfl⟩
      have h0 : 0 ≤ h := by omega
      have h1 : h ≤ 9223372036854775808 := by omega
      have l0 : 0 ≤ l := by omega
      have l1 : l < 4294967296 := by omega
      have SE : Hid (S = -(h * 4294967296 + l)) := by show _ = _; omega
      by_cases d3 : 2147483648 ≤ h
      · have g3 : decide (2147483648 ≤ h) = true := decide_eq_true d3
        by_cases d4 : h = 2147483648
        · have g4 : (h == 2147483648) = true := by simp [d4]
          by_cases d5 : l = 0
          · have g5 : (l == 0) = true := by simp [d5]
            have W : Hid (X = -9223372036854775808 ∧ ok = true) := by
              have r := HY.out (by have := SE.out; unfold W64; omega)
              exact ⟨by rw [r.1, SE.out, d4, d5]; rfl, r.2⟩
            clear d4 d5 d3
            clear SE HY HN
            go_wp2
            go_region
            go_wp2
            go_region
            go_wp2
            go_ret2
            exact ⟨by rw [W.out.1, W.out.2]; rfl, (Ab.refl w).drew.drew⟩
          · have g5 : (l == 0) = false := by simp [d5]
            have W : Hid (X = 0 ∧ ok = false) := HN.out (by have := SE.out; unfold W64; omega)
            clear d3 d4
            clear SE HY HN
            go_wp2
            go_region
            go_wp2
            go_region
            go_wp2
            go_ret2
            exact ⟨by rw [W.out.1, W.out.2]; rfl, (Ab.refl w).drew.drew⟩
        · have g4 : (h == 2147483648) = false := by simp [d4]
          have W : Hid (X = 0 ∧ ok = false) := HN.out (by have := SE.out; unfold W64; omega)
          clear d3
          clear SE HY HN
          go_wp2
          go_region
          go_wp2
          go_region
          go_wp2
          go_ret2
          exact ⟨by rw [W.out.1, W.out.2]; rfl, (Ab.refl w).drew.drew⟩
      · have g3 : decide (2147483648 ≤ h) = false := decide_eq_false d3
        have W : Hid (X = -(h * 4294967296 + l) ∧ ok = true) := by
          have r := HY.out (by have := SE.out; unfold W64; omega)
          exact ⟨by rw [r.1, SE.out], r.2⟩
        clear SE HY HN
        go_wp2
        go_region
        go_wp2
        go_region
        go_wp2
        go_ret2
        exact ⟨by rw [W.out.1, W.out.2]; rfl, (Ab.refl w).drew.drew⟩
    · have g2 : decide (bl < al) = false := decide_eq_false q2
      obtain ⟨h, hh⟩ : ∃ h, bh - ah = h := ⟨_, rfl⟩
      obtain ⟨l, hl⟩ : ∃ l, bl - al = l := ⟨_, rfl⟩
      have h0 : 0 ≤ h := by omega
      have h1 : h ≤ 9223372036854775808 := by omega
      have l0 : 0 ≤ l := by omega
      have l1 : l < 4294967296 := by omega
      have SE : Hid (S = -(h * 4294967296 + l)) := by show _ = _; omega
      by_cases d3 : 2147483648 ≤ h
      · have g3 : decide (2147483648 ≤ h) = true := decide_eq_true d3
        by_cases d4 : h = 2147483648
        · have g4 : (h == 2147483648) = true := by simp [d4]
          by_cases d5 : l = 0
          · have g5 : (l == 0) = true := by simp [d5]
            have W : Hid (X = -9223372036854775808 ∧ ok = true) := by
              have r := HY.out (by have := SE.out; unfold W64; omega)
              exact ⟨by rw [r.1, SE.out, d4, d5]; rfl, r.2⟩
            clear d4 d5 d3
            clear SE HY HN
            go_wp2
            go_region
            go_wp2
            go_region
            go_wp2
            go_ret2
            exact ⟨by rw [W.out.1, W.out.2]; rfl, (Ab.refl w).drew.drew⟩
          · have g5 : (l == 0) = false := by simp [d5]
            have W : Hid (X = 0 ∧ ok = false) := HN.out (by have := SE.out; unfold W64; omega)
            clear d3 d4
            clear SE HY HN
            go_wp2
            go_region
            go_wp2
            go_region
            go_wp2
            go_ret2
            exact ⟨by rw [W.out.1, W.out.2]; rfl, (Ab.refl w).drew.drew⟩
        · have g4 : (h == 2147483648) = false := by simp [d4]
          have W : Hid (X = 0 ∧ ok = false) := HN.out (by have := SE.out; unfold W64; omega)
          clear d3
          clear SE HY HN
          go_wp2
          go_region
          go_wp2
          go_region
          go_wp2
          go_ret2
          exact ⟨by rw [W.out.1, W.out.2]; rfl, (Ab.refl w).drew.drew⟩
      · have g3 : decide (2147483648 ≤ h) = false := decide_eq_false d3
        have W : Hid (X = -(h * 4294967296 + l) ∧ ok = true) := by
          have r := HY.out (by have := SE.out; unfold W64; omega)
          exact ⟨by rw [r.1, SE.out], r.2⟩
        clear SE HY HN
        go_wp2
        go_region
        go_wp2
        go_region
        go_wp2
        go_ret2
        exact ⟨by rw [W.out.1, W.out.2]; rfl, (Ab.refl w).drew.drew⟩
  · have g1 : decide (ah < bh) = false := decide_eq_false q1
    by_cases q3 : ah = bh
    · have g3' : (ah == bh) = true := by simp [q3]
      by_cases q2 : al < bl
      · have g2 : decide (al < bl) = true := decide_eq_true q2
        have g2' : decide (bl < al) = false := decide_eq_false (by omega)
        have W : Hid (X = -(bl - al) ∧ ok = true) := by
          have r := HY.out (by unfold W64; omega)
          exact ⟨by rw [r.1]; omega, r.2⟩
        have g4 : decide ((2147483648 : Int) ≤ bh - ah) = false := decide_eq_false (by omega)
        have z : bh - ah = 0 := by omega
        clear q3
        clear HY HN
        go_wp2
        go_region
        go_wp2
        go_region
        go_wp2
        go_ret2
        exact ⟨by rw [W.out.1, W.out.2]; rfl, (Ab.refl w).drew.drew⟩
      · have g2 : decide (al < bl) = false := decide_eq_false q2
        have W : Hid (X = al - bl ∧ ok = true) := by
          have r := HY.out (by unfold W64; omega)
          exact ⟨by rw [r.1]; omega, r.2⟩
        have g4 : decide ((2147483648 : Int) ≤ ah - bh) = false := decide_eq_false (by omega)
        have z : ah - bh = 0 := by omega
        clear q3
        clear HY HN
        go_wp2
        go_region
        go_wp2
        go_region
        go_wp2
        go_ret2
        exact ⟨by rw [W.out.1, W.out.2]; rfl, (Ab.refl w).drew.drew⟩
    · have g3' : (ah == bh) = false := by simp [q3]
      by_cases q2 : al < bl
      · have g2 : decide (al < bl) = true := decide_eq_true q2
        obtain ⟨h, hh⟩ : ∃ h, ah - 1 - bh = h := ⟨_, rfl⟩
        obtain ⟨l, hl⟩ : ∃ l, al + 4294967296 - bl = l := ⟨_, rfl⟩
        have h0 : 0 ≤ h := by omega
        have h1 : h ≤ 9223372036854775808 := by omega
        have l0 : 0 ≤ l := by omega
        have l1 : l < 4294967296 := by omega
        have SE : Hid (S = (h * 4294967296 + l)) := by show _ = _; omega
        by_cases d3 : 2147483648 ≤ h
        · have g3 : decide (2147483648 ≤ h) = true := decide_eq_true d3
          have W : Hid (X = 0 ∧ ok = false) := HN.out (by have := SE.out; unfold W64; omega)
          clear d3
          clear SE HY HN
          go_wp2
          go_region
          go_wp2
          go_region
          go_wp2
          go_ret2
          exact ⟨by rw [W.out.1, W.out.2]; rfl, (Ab.refl w).drew.drew⟩
        · have g3 : decide (2147483648 ≤ h) = false := decide_eq_false d3
          have W : Hid (X = (h * 4294967296 + l) ∧ ok = true) := by
            have r := HY.out (by have := SE.out; unfold W64; omega)
            exact ⟨by rw [r.1, SE.out], r.2⟩
          clear SE HY HN
          go_wp2
          go_region
          go_wp2
          go_region
          go_wp2
          go_ret2
          exact ⟨by rw [W.out.1, W.out.2]; rfl, (Ab.refl w).drew.drew⟩
      · have g2 : decide (al < bl) = false := decide_eq_false q2
        obtain ⟨h, hh⟩ : ∃ h, ah - bh = h := ⟨_, rfl⟩
        obtain ⟨l, hl⟩ : ∃ l, al - bl = l := ⟨_, rfl⟩
        have h0 : 0 ≤ h := by omega
        have h1 : h ≤ 9223372036854775808 := by omega
        have l0 : 0 ≤ l := by omega
        have l1 : l < 4294967296 := by omega
        have SE : Hid (S = (h * 4294967296 + l)) := by show _ = _; omega
        by_cases d3 : 2147483648 ≤ h
        · have g3 : decide (2147483648 ≤ h) = true := decide_eq_true d3
          have W : Hid (X = 0 ∧ ok = false) := HN.out (by have := SE.out; unfold W64; omega)
          clear d3
          clear SE HY HN
          go_wp2
          go_region
          go_wp2
          go_region
          go_wp2
          go_ret2
          exact ⟨by rw [W.out.1, W.out.2]; rfl, (Ab.refl w).drew.drew⟩
        · have g3 : decide (2147483648 ≤ h) = false := decide_eq_false d3
          have W : Hid (X = (h * 4294967296 + l) ∧ ok = true) := by
            have r := HY.out (by have := SE.out; unfold W64; omega)
            exact ⟨by rw [r.1, SE.out], r.2⟩
          clear SE HY HN
          go_wp2
          go_region
          go_wp2
          go_region
          go_wp2
          go_ret2
          exact ⟨by rw [W.out.1, W.out.2]; rfl, (Ab.refl w).drew.drew⟩
/-- what a sum is -/
theorem value_at (b k : Nat) (S : Int) (w : World) (h : IsBig w b k S) (hk : k ≤ 2147483648) :
    (W64 S → Calls Tryd.prog 34 #[.pointer (some ⟨b, 0, none⟩)] w fun e w' => e = .returned (.tuple #[.int .i64 S, .bool true]) ∧ Below w.heap.size w w') ∧
    (¬ W64 S → Calls Tryd.prog 34 #[.pointer (some ⟨b, 0, none⟩)] w fun e w' => e = .returned (.tuple #[.int .i64 0, .bool false]) ∧ Below w.heap.size w w') := by
  obtain ⟨i0, i1, i2, i3, R, b0, b1, b2, b3, e⟩ := h
  constructor
  · intro y
    exact value_go b i0 i1 i2 i3 _ _ _ _ S S true w R (by omega) (by omega) (by omega) (by omega) (by omega) (by omega) (by omega) (by omega) rfl rfl rfl rfl (show _ = _ by omega) (fun _ => ⟨rfl, rfl⟩) (fun n => absurd y n)
  · intro y
    exact value_go b i0 i1 i2 i3 _ _ _ _ S 0 false w R (by omega) (by omega) (by omega) (by omega) (by omega) (by omega) (by omega) (by omega) rfl rfl rfl rfl (show _ = _ by omega) (fun n => absurd n y) (fun _ => ⟨rfl, rfl⟩)
end Ms
end Go.Proofs.YtapklbfcjgpkdaaDoor
