/-
  Some of the texts of this proof, one behind the other.
-/
import Derived.Test.YtpfndibgfkkcgaaDoorRows
import Derived.Deep.OwnRows
import Derived.Deep.Cut
import Derived.Deep.CutRange
import Derived.Deep.AppendLies
import Derived.Deep.AppendSrc
import Derived.OwnWalk
import Derived.Deep.QuietTactic
import Derived.Test.YtpfndibgfkkcgaaDoorZ06
namespace Go.Proofs.YtpfndibgfkkcgaaDoor
open Go.RowKit Go.Deep
namespace Sh
/-- a list of so many whole numbers -/
def IsI (w : World) (a0 : Option Addr) (len : Nat) (xs : Nat → Int) : Prop := ∀ k, k < len → (-9223372036854775808 ≤ xs k ∧ xs k ≤ 9223372036854775807) ∧ ∃ b o, a0 = some ⟨b, o, none⟩ ∧ b < w.heap.size ∧ w.cell? ⟨b, o + k, none⟩ = some (.int .i64 (xs k))
theorem IsI.below {w w' : World} {a0 : Option Addr} {len : Nat} {xs : Nat → Int} (h : IsI w a0 len xs) (hb : Below w.heap.size w w') : IsI w' a0 len xs := by
  intro k hk
  obtain ⟨h1, b, o, h2, h3, h4⟩ := h k hk
  exact ⟨h1, b, o, h2, Nat.lt_of_lt_of_le h3 hb.size, (Below.cell hb h3).trans h4⟩
theorem IsI.some0 {w : World} {a0 : Option Addr} {len : Nat} {xs : Nat → Int} (h : IsI w a0 len xs) (h0 : 0 < len) : ∃ b o, a0 = some ⟨b, o, none⟩ := by
  obtain ⟨_, b, o, h2, _⟩ := h 0 h0
  exact ⟨b, o, h2⟩
theorem IsI.at0 {w : World} {b o len k : Nat} {xs : Nat → Int} (h : IsI w (some ⟨b, o, none⟩) len xs) (hk : k < len) : (-9223372036854775808 ≤ xs k ∧ xs k ≤ 9223372036854775807) ∧ b < w.heap.size ∧ w.cell? ⟨b, o + k, none⟩ = some (.int .i64 (xs k)) := by
  obtain ⟨h1, b', o', h2, h3, h4⟩ := h k hk
  cases h2
  exact ⟨h1, h3, h4⟩
theorem IsI.nil (w : World) (a0 : Option Addr) (xs : Nat → Int) : IsI w a0 0 xs := fun k hk => absurd hk (Nat.not_lt_zero k)
theorem IsI.congr {w : World} {a0 : Option Addr} {len : Nat} {xs ys : Nat → Int} (h : IsI w a0 len xs) (e : ∀ k, k < len → xs k = ys k) : IsI w a0 len ys := fun k hk => by rw [← e k hk]; exact h k hk
theorem add_off (b off j : Nat) : (⟨b, off, none⟩ : Addr).add j = ⟨b, off + j, none⟩ := by unfold Addr.add; split <;> simp_all
theorem row_in {w : World} {b n : Nat} {f : Nat → Int} (h : w.rowIs b 2 n (fun i => .int .i64 (f i))) (hf : ∀ i, i < n → -9223372036854775808 ≤ f i ∧ f i ≤ 9223372036854775807) : IsI w (some ⟨b, 0, none⟩) n f := fun k hk => ⟨hf k hk, b, 0, rfl, h.lt, by rw [Nat.zero_add]; exact h.cell hk⟩
theorem row_ab {w w' : World} {b : Nat} {t : TypeId} {n : Nat} {f : Nat → Value} (h : w.rowIs b t n f) (a : Ab w w') : w'.rowIs b t n f := h.of_block (Below.block a _ h.lt)
theorem info64 : (Tryd.prog.info? 2).map (fun i => (i.zero, i.size, i.bytes)) = some (some (.int .i64 0), 1, 8) := by kernel_rfl
/-- a list of the call's own, of so many whole numbers -/
def Own (B : Nat) (v : Value) (l : List Int) (w : World) : Prop := w.ownsRow B 2 1 v l.length (l.map (Value.int .i64))
theorem Own.in {B : Nat} {v : Value} {l : List Int} {w : World} (h : Own B v l w) (hl : ∀ x ∈ l, -9223372036854775808 ≤ x ∧ x ≤ 9223372036854775807) : ∃ a0 cap, v = .slice a0 l.length cap ∧ IsI w a0 l.length (fun j => l.getD j 0) := by
  rcases h.2 with ⟨rfl, h0⟩ | ⟨g, cap, cur, rfl, hb, hg, h1, h2, h3, h4⟩
  · exact ⟨none, 0, by rw [h0], fun k hk => by omega⟩
  · refine ⟨some ⟨g, 0, none⟩, cap, rfl, fun k hk => ?_⟩
    have hx : l.getD k 0 = l[k] := by simp [List.getD, hk]
    refine ⟨by dsimp only; rw [hx]; exact hl _ (List.getElem_mem _), g, 0, rfl, lt_of_block hg, ?_⟩
    have e := h.cells (g := g) rfl k (.int .i64 (l.getD k 0)) (by simp [hk])
    rw [add_off] at e
    exact e
theorem Own.new (w : World) (B : Nat) : Own B (.slice none 0 0) [] w := ⟨by simp, .inl ⟨rfl, rfl⟩⟩
theorem Own.to {B : Nat} {v : Value} {l : List Int} {w w' : World} (h : Own B v l w) (hb : Ab w w') : Own B v l w' := by
  refine ⟨h.1, ?_⟩
  rcases h.2 with h0 | ⟨g, cap, cur, e, hb', hg, h1, h2, h3, h4⟩
  · exact .inl h0
  · exact .inr ⟨g, cap, cur, e, hb', hb.heap hg, h1, h2, h3, h4⟩
theorem info_i : ∃ i, Tryd.prog.info? 2 = some i ∧ i.zero = some (.int .i64 0) ∧ i.size = 1 ∧ i.bytes = 8 := by
  have h := info64
  cases e : Tryd.prog.info? 2 with
  | none => rw [e] at h; cases h
  | some i =>
    rw [e] at h
    simp at h
    exact ⟨i, rfl, h.1, h.2.1, h.2.2⟩
/-- all blocks of V but g are in w as they were -/
def Abo (V : World) (g : Nat) (w : World) : Prop := w.os = V.os ∧ w.tape = V.tape ∧ w.output = V.output ∧ V.heap.size ≤ w.heap.size ∧ ∀ k, k < V.heap.size → k ≠ g → w.heap[k]? = V.heap[k]?
theorem Abo.ab {w0 V w : World} {g : Nat} (h : Abo V g w) (a : Ab w0 V) (hg : w0.heap.size ≤ g) : Ab w0 w := by
  obtain ⟨h1, h2, h3, h4, h5⟩ := h
  exact ⟨h1.trans a.os, h2.trans a.tape, h3.trans a.output, Nat.le_trans (Below.size a) h4, fun k hk => (h5 k (Nat.lt_of_lt_of_le hk (Below.size a)) (by omega)).trans (a.block k hk)⟩
theorem Abo.refl (V : World) (g : Nat) : Abo V g V := ⟨rfl, rfl, rfl, Nat.le_refl _, fun _ _ _ => rfl⟩
theorem Abo.grown {V wr w' : World} {g : Nat} {O : Obj} {row : Option Nat} (h : Abo V g wr) (hg : (wr.alloc O).grownBy w' row) (hr : ∀ b, row = some b → b = g ∨ V.heap.size ≤ b) : Abo V g w' := by
  obtain ⟨h1, h2, h3, h4, h5⟩ := h
  have hs : (wr.alloc O).heap.size = wr.heap.size + 1 := by
    show (wr.heap.push O).size = _
    simp
  refine ⟨hg.os.trans h1, hg.tape.trans h2, hg.output.trans h3, by have := hg.size; omega, fun k hk hne => ?_⟩
  refine (hg.block k (by omega) (fun e => ?_)).trans ((Below.heap_alloc _ _ _ (by omega)).trans (h5 k hk hne))
  rcases hr k e.symm with h6 | h6
  · exact hne h6
  · omega
theorem rowIs_abo {V w : World} {b : Nat} {t : TypeId} {n : Nat} {f : Nat → Value} {g : Nat} (h : V.rowIs b t n f) (a : Abo V g w) (hne : b ≠ g) : w.rowIs b t n f := h.of_block (a.2.2.2.2 b h.lt hne)
theorem isI_abo {V w : World} {b o n g : Nat} {f : Nat → Int} (h : IsI V (some ⟨b, o, none⟩) n f) (a : Abo V g w) (hne : b ≠ g) : IsI w (some ⟨b, o, none⟩) n f := fun k hk => by
  obtain ⟨h1, b', o', h2, h3, h4⟩ := h k hk
  cases h2
  exact ⟨h1, b, o, rfl, Nat.lt_of_lt_of_le h3 a.2.2.2.1, (World.cell?_of_block (a.2.2.2.2 b h3 hne)).trans h4⟩
theorem Own.alloc {B : Nat} {v : Value} {l : List Int} {w : World} (h : Own B v l w) (O : Obj) : Own B v l (w.alloc O) := World.ownsRow.alloc h O
theorem wpList_app {ops : Array Oper} {rest : List Oper} {o : Oper} {a : Act} {w : World} {Q : Exit → Act → World → Prop} (hgd : o.guard = none) (s x : Operand)
    (ho : o.op = .call { callee := .builtin .append, args := #[s, x], argTypes := #[22, 22] })
    (B : Nat) (v : Value) (l : List Int) (hs : a.eval s = v) (hown : Own B v l w)
    (ad : Addr) (m c : Nat) (news : List Int) (hx : a.eval x = .slice (some ad) m c) (hl : news.length = m) (hnews : ∀ j u, (news.map (Value.int .i64))[j]? = some u → w.cell? (ad.add j) = some u)
    (hm : 0 < m) (hlen : l.length + m ≤ 1048576) (hB : B ≤ w.heap.size) (nm : Nat) (hnm : l.length + m = nm)
    (h : ∀ g cap w', Own B (.slice (some ⟨g, 0, none⟩) nm cap) (l ++ news) w' → w.grownBy w' v.ownBlock → (v.ownBlock = some g ∨ g = w.heap.size) → B ≤ g → wpList Tryd.prog ops Q rest (a.put o.dst (.slice (some ⟨g, 0, none⟩) nm cap)) w') : wpList Tryd.prog ops Q (o :: rest) a w := by
  subst hnm
  obtain ⟨i0, hi, hz0, hz1, hz2⟩ := info_i
  refine wpList_append_lies w hgd s x _ ho B 2 i0 (.int .i64 0) 1 8 Tryd.underlying22 hi hz0 hz1 hz2 rfl (by decide) v l.length (l.map (Value.int .i64)) hs hown ad m c (news.map (Value.int .i64)) hx (by simpa using hl) hnews (fun u hu => by
    obtain ⟨y, _, rfl⟩ := List.mem_map.1 hu
    rfl) hm (by unfold maxLen; omega) (by omega) hB _ rfl ?_
  intro g cap w' o1 g1 e1 _
  have hb : B ≤ g := by
    rcases o1.2 with ⟨q, _⟩ | ⟨g2, _, _, q, hb, _⟩
    · cases q
    · injection q with q1 q2 q3
      injection q1 with q4
      injection q4 with q5
      omega
  refine h g cap w' ?_ g1 e1 hb
  unfold Own
  rw [List.length_append, List.map_append, hl]
  exact o1
end Sh
end Go.Proofs.YtpfndibgfkkcgaaDoor

namespace Go.Proofs.YtpfndibgfkkcgaaDoor
open Go.RowKit Go.Deep Cu
namespace Ms
open Sh
/-- within 64 bits -/
def W64 (x : Int) : Prop := -9223372036854775808 ≤ x ∧ x ≤ 9223372036854775807
/-- whether the lists fit -/
def fit2 (n lw lf : Nat) : Prop := lw = 6 * n * n ∧ lf = 12 * n * n
/-- whether what comes out can be -/
def can (n : Nat) (W F : Nat → Int) : Prop := ∀ c, c < 6 * n * n → 0 ≤ mv n W F c ∧ mv n W F c ≤ 9223372036854775807
/-- what Move is to answer -/
def MoveC : Prop := ∀ (n gb : Nat) (pw : Option Addr) (lw cw : Nat) (W : Nat → Int) (pf : Option Addr) (lf cf : Nat) (F : Nat → Int) (w : World), (1 ≤ n ∧ n ≤ 32) → GridOf n gb w → lw ≤ 9223372036854775807 → lf ≤ 9223372036854775807 → IsI w pw lw W → IsI w pf lf F →
    (fit2 n lw lf → can n W F → Calls Tryd.prog 13 #[.pointer (some ⟨gb, 0, none⟩), .slice pw lw cw, .slice pf lf cf] w fun e w' => ∃ v, e = .returned (.tuple #[v, .int .i64 0]) ∧ Below w.heap.size w w' ∧ Own w.heap.size v ((List.range (6 * n * n)).map (mv n W F)) w') ∧
    (fit2 n lw lf → ¬ can n W F → Calls Tryd.prog 13 #[.pointer (some ⟨gb, 0, none⟩), .slice pw lw cw, .slice pf lf cf] w fun e w' => e = .returned (.tuple #[.slice none 0 0, .int .i64 20]) ∧ Below w.heap.size w w') ∧
    (¬ fit2 n lw lf → Calls Tryd.prog 13 #[.pointer (some ⟨gb, 0, none⟩), .slice pw lw cw, .slice pf lf cf] w fun e w' => e = .returned (.tuple #[.slice none 0 0, .int .i64 1]) ∧ Below w.heap.size w w')
/-- what Total is to answer -/
def TotalC : Prop := ∀ (pw : Option Addr) (lw cw : Nat) (W : Nat → Int) (pm : Option Addr) (lm cm : Nat) (M : Nat → Int) (w : World), lw ≤ 17592186044416 → lm ≤ 17592186044416 → IsI w pw lw W → IsI w pm lm M →
    (W64 (sumN W lw + sumN M lm) → Calls Tryd.prog 10 #[.slice pw lw cw, .slice pm lm cm] w fun e w' => e = .returned (.tuple #[.int .i64 (sumN W lw + sumN M lm), .int .i64 0]) ∧ Below w.heap.size w w') ∧
    (¬ W64 (sumN W lw + sumN M lm) → Calls Tryd.prog 10 #[.slice pw lw cw, .slice pm lm cm] w fun e w' => e = .returned (.tuple #[.int .i64 0, .int .i64 20]) ∧ Below w.heap.size w w')
end Ms
end Go.Proofs.YtpfndibgfkkcgaaDoor

namespace Go.Proofs.YtpfndibgfkkcgaaDoor
open Go.RowKit Go.Deep
namespace Ms
open Sh
set_option maxRecDepth 100000 in
set_option maxHeartbeats 4000000 in
theorem same_at (pa pb : Option Addr) (len ca cb : Nat) (xs : Nat → Int) (w : World) (hl : len ≤ 281474976710656) (hA : IsI w pa len xs) (hB : IsI w pb len xs) :
    Calls Tryd.prog 18 #[.slice pa len ca, .slice pb len cb] w fun e w' => e = .returned (.bool true) ∧ Below w.heap.size w w' := by
  have HA := hid hA
  have HB := hid hB
  have HL := hid hl
  clear hA hB hl
  go_enter Tryd.func18, Tryd.ntmps18
  go_wp2
  go_loopw [5] (fun iv wr => ∃ c : Nat, c ≤ len ∧ iv = .int .i64 (c : Nat) ∧ Ab w wr) (fun iv _ => len - (intOf iv).toNat)
  case atStart => exact ⟨0, by omega, rfl, Ab.refl w⟩
  case round =>
    obtain ⟨c, hc, rfl, ar⟩ := hrel
    have AR := hid ar
    clear ar
    by_cases h : c < len
    · have HC := hid h
      obtain ⟨x, hx⟩ : ∃ x, xs c = x := ⟨_, rfl⟩
      obtain ⟨-, b1, o1, e1, l1, c1⟩ := HA.out c h
      obtain ⟨-, b2, o2, e2, l2, c2⟩ := HB.out c h
      rw [hx] at c1 c2
      have C1 := hid c1
      have C2 := hid c2
      have L1 := hid l1
      have L2 := hid l2
      have hcI : (c : Int) < len := by omega
      have hcB : (c : Int) ≤ 281474976710656 := by have := HL.out; omega
      clear c1 c2 l1 l2 hx h
      subst e1 e2
      go_upto_region 6 with fail
      obtain ⟨UU, E, hF1, hF2⟩ := cls wr
      have HU := hid hF2
      have HU1 := hid hF1
      have x1 : ∀ u, (E u).cell? ⟨b1, o1 + c, none⟩ = some (.int .i64 x) := fun u => (Below.cell (AR.out.trans (hF1 u)) L1.out).trans C1.out
      have x2 : ∀ u, (E u).cell? ⟨b2, o2 + c, none⟩ = some (.int .i64 x) := fun u => (Below.cell (AR.out.trans (hF1 u)) L2.out).trans C2.out
      have DD0 := HU.out _ (Ab.refl wr).drew
      clear hF1 hF2
      refine region_cls E (by kernel_rfl) (by kernel_rfl) DD0 ?_
      repeat (go_big_quiet_step (with_reducible rfl))
      refine wpQuiet_nil ?_
      intro z hwz
      obtain ⟨u0, hu⟩ := hwz
      have AZ : Hid (Ab w z) := by rw [hu]; exact AR.out.trans (HU1.out u0)
      clear hu u0
      clear HU HU1 DD0 x1 x2
      clear E UU
      go_wp2
      go_roundw
      case rel => exact ⟨c + 1, by have := HC.out; omega, by simp, AZ.out⟩
      case measure => simp [intOf]; have := HC.out; omega
    · have e : len = c := by omega
      subst e
      go_wp2
      go_ret
      exact ⟨rfl, AR.out⟩
end Ms
end Go.Proofs.YtpfndibgfkkcgaaDoor

namespace Go.Proofs.YtpfndibgfkkcgaaDoor
open Go.RowKit Go.Deep Cu
namespace Ms
open Sh
set_option maxRecDepth 100000 in
set_option maxHeartbeats 4000000 in
theorem one_at (N k : Nat) (q : Int) (w : World) (hN : N ≤ 65536) (hk : k < N) :
    Calls Tryd.prog 20 #[.int .i64 (N : Nat), .int .i64 (k : Nat), .int .i64 q] w fun e w' => ∃ b, e = .returned (.slice (some ⟨b, 0, none⟩) N N) ∧ Below w.heap.size w w' ∧ w'.rowIs b 2 N (fun i => .int .i64 (oneF k q i)) ∧ w.heap.size ≤ b := by
  have MK := run_make_row' (P := Tryd.prog) 22 2 (.int .i64 0) 8 Tryd.underlying22 info64 rfl .i64 .i64 N (by omega) (by omega) w
  obtain ⟨ob, hob⟩ : ∃ b, w.heap.size = b := ⟨_, rfl⟩
  have R0 : (w.alloc (.cells (madeCells #[.int .i64 0] N) 2)).rowIs ob 2 N (fun _ => .int .i64 0) := by rw [← hob]; exact World.rowIs_made _ _ _ _
  have A0 : Hid (Ab w (w.alloc (.cells (madeCells #[.int .i64 0] N) 2))) := bl1 w _
  have HO : Hid (w.heap.size ≤ ob) := Nat.le_of_eq hob
  have kI : (k : Int) < N := by omega
  have z1 := R0.cell hk
  have z2 := R0.frozen k
  have RW := hid R0
  clear R0
  generalize w.alloc (.cells (madeCells #[.int .i64 0] N) 2) = wm at *
  go_enter Tryd.func20, Tryd.ntmps20
  go_wp2
  go_ret
  refine ⟨ob, rfl, Ab.set A0.out HO.out _, (RW.out.set k _).congr (fun i _ => ?_), HO.out⟩
  unfold oneF
  by_cases e : i = k <;> simp [e]
end Ms
end Go.Proofs.YtpfndibgfkkcgaaDoor

namespace Go.Proofs.YtpfndibgfkkcgaaDoor
open Go.RowKit Go.Deep Cu
namespace Ms
open Sh
theorem lit_in (w : World) (l : List Int) (hl : ∀ x ∈ l, W64 x) : IsI (w.alloc (.cells (l.map (Value.int .i64)).toArray 2)) (some ⟨w.heap.size, 0, none⟩) l.length (fun i => l.getD i 0) := fun k hk => by
  have h := heap_alloc_new w (.cells (l.map (Value.int .i64)).toArray 2)
  refine ⟨?_, w.heap.size, 0, rfl, lt_of_block h, ?_⟩
  · have e : l.getD k 0 = l[k] := by simp [List.getD, hk]
    dsimp only
    rw [e]
    exact hl _ (List.getElem_mem _)
  · rw [Nat.zero_add]
    refine (cell_of_row _ _ k _ _ _ h).trans ?_
    simp [hk, List.getD]
def w5 (i : Nat) : Int := [5, 0, 0, 0, 0, 0].getD i 0
theorem aw_mv : (List.range (6 * 1 * 1)).map (mv 1 w5 (oneF 0 3)) = [2, 3, 0, 0, 0, 0] := by decide +kernel
theorem aw_can : can 1 w5 (oneF 0 3) := by
  intro c hc
  have h : ∀ c, c < 6 → 0 ≤ mv 1 w5 (oneF 0 3) c ∧ mv 1 w5 (oneF 0 3) c ≤ 9223372036854775807 := by decide +kernel
  exact h c (by omega)
theorem aw_not : ¬ can 1 w5 (oneF 0 6) := fun h => by
  have h0 := (h 0 (by omega)).1
  have e : mv 1 w5 (oneF 0 6) 0 = -1 := by decide +kernel
  omega
set_option maxRecDepth 100000 in
set_option maxHeartbeats 16000000 in
theorem awake_at (MC : MoveC) (TC : TotalC) (w : World) (hF : Fr w) :
    Calls Tryd.prog 9 #[] w fun e w' => e = .returned (.bool true) ∧ Below w.heap.size w w' := by
  have NW : Hid (Calls Tryd.prog 12 #[.int .i64 1] w fun e w' => ∃ gb, e = .returned (.tuple #[.pointer (some ⟨gb, 0, none⟩), .int .i64 0]) ∧ Ab w w' ∧ w.heap.size ≤ gb ∧ GridOf 1 gb w') := new_at 1 w ⟨by omega, by omega⟩ hF
  have O3 : Hid (∀ v, Calls Tryd.prog 20 #[.int .i64 12, .int .i64 0, .int .i64 3] v fun e w' => ∃ b, e = .returned (.slice (some ⟨b, 0, none⟩) 12 12) ∧ Below v.heap.size v w' ∧ w'.rowIs b 2 12 (fun i => .int .i64 (oneF 0 3 i)) ∧ v.heap.size ≤ b) := fun v => one_at 12 0 3 v (by omega) (by omega)
  have O6 : Hid (∀ v, Calls Tryd.prog 20 #[.int .i64 12, .int .i64 0, .int .i64 6] v fun e w' => ∃ b, e = .returned (.slice (some ⟨b, 0, none⟩) 12 12) ∧ Below v.heap.size v w' ∧ w'.rowIs b 2 12 (fun i => .int .i64 (oneF 0 6 i)) ∧ v.heap.size ≤ b) := fun v => one_at 12 0 6 v (by omega) (by omega)
  have L5 : Hid (∀ v : World, IsI (v.alloc (.cells #[.int .i64 5, .int .i64 0, .int .i64 0, .int .i64 0, .int .i64 0, .int .i64 0] 2)) (some ⟨v.heap.size, 0, none⟩) 6 w5) := fun v => lit_in v [5, 0, 0, 0, 0, 0] (fun x hx => by simp at hx; unfold W64; omega)
  have L2 : Hid (∀ v : World, IsI (v.alloc (.cells #[.int .i64 2, .int .i64 3, .int .i64 0, .int .i64 0, .int .i64 0, .int .i64 0] 2)) (some ⟨v.heap.size, 0, none⟩) 6 (fun i => [2, 3, 0, 0, 0, 0].getD i 0)) := fun v => lit_in v [2, 3, 0, 0, 0, 0] (fun x hx => by simp at hx; unfold W64; omega)
  have T1 : Hid (∀ v : World, Calls Tryd.prog 10 #[.slice (some ⟨v.heap.size, 0, none⟩) 2 2, .slice (some ⟨v.heap.size + 1, 0, none⟩) 1 1] ((v.alloc (.cells #[.int .i64 9223372036854775807, .int .i64 1] 2)).alloc (.cells #[.int .i64 (-1)] 2)) fun e w' => e = .returned (.tuple #[.int .i64 9223372036854775807, .int .i64 0]) ∧ Ab v w') := fun v => by
    have i1 := (lit_in v [9223372036854775807, 1] (fun x hx => by simp at hx; unfold W64; omega)).below (bl1 _ (.cells #[.int .i64 (-1)] 2))
    have i2 := lit_in (v.alloc (.cells #[.int .i64 9223372036854775807, .int .i64 1] 2)) [-1] (fun x hx => by simp at hx; unfold W64; omega)
    rw [show (v.alloc (.cells #[.int .i64 9223372036854775807, .int .i64 1] 2)).heap.size = v.heap.size + 1 by simp] at i2
    refine ((TC (some ⟨v.heap.size, 0, none⟩) 2 2 _ (some ⟨v.heap.size + 1, 0, none⟩) 1 1 _ _ (by omega) (by omega) i1 i2).1 (show W64 9223372036854775807 by unfold W64; omega)).mono ?_
    rintro e w' ⟨rfl, b⟩
    exact ⟨rfl, Ab.trans (bl2 _ _ _) b⟩
  have T2 : Hid (∀ v : World, Calls Tryd.prog 10 #[.slice (some ⟨v.heap.size, 0, none⟩) 2 2, .slice none 0 0] (v.alloc (.cells #[.int .i64 9223372036854775807, .int .i64 1] 2)) fun e w' => e = .returned (.tuple #[.int .i64 0, .int .i64 20]) ∧ Ab v w') := fun v => by
    have i1 := lit_in v [9223372036854775807, 1] (fun x hx => by simp at hx; unfold W64; omega)
    refine ((TC (some ⟨v.heap.size, 0, none⟩) 2 2 _ none 0 0 (fun _ => 0) _ (by omega) (by omega) i1 (IsI.nil _ _ _)).2 (show ¬ W64 9223372036854775808 by unfold W64; omega)).mono ?_
    rintro e w' ⟨rfl, b⟩
    exact ⟨rfl, Ab.trans (bl1 _ _) b⟩
  have HM := hid MC
  clear MC TC hF
  go_enter Tryd.func9, Tryd.ntmps9
  go_wp2_with fail
  refine NW.out.mono ?_
  rintro e9 v1 ⟨gb, rfl, a1, -, g1⟩
  have A1 := hid a1
  have G1 := hid g1
  have ED : Hid (Calls Tryd.prog 15 #[.pointer (some ⟨gb, 0, none⟩)] v1 fun e w' => e = .returned (.int .i64 12) ∧ w' = v1) := gEdges_at g1
  clear a1 g1 NW
  go_wp2_with fail
  refine ED.out.mono ?_
  rintro e9 v9 ⟨rfl, hv9⟩
  have hv8 := hv9.symm
  subst hv8
  clear ED
  go_wp2_with fail
  refine (O3.out _).mono ?_
  rintro e9 v2 ⟨b, rfl, b2, r2, l2⟩
  have A2 : Hid (Ab v1 v2) := Ab.trans (bl1 v1 _) b2
  have I2 := hid ((L5.out v1).below b2)
  have R2 := hid r2
  have M1 := hid ((HM.out 1 gb (some ⟨v1.heap.size, 0, none⟩) 6 6 w5 (some ⟨b, 0, none⟩) 12 12 (oneF 0 3) v2 ⟨by omega, by omega⟩ (G1.out.to A2.out) (by omega) (by omega) I2.out (row_in R2.out (fun i _ => by unfold oneF; split <;> omega))).1 ⟨rfl, rfl⟩ aw_can)
  rw [aw_mv] at M1
  clear b2 r2 l2 I2 R2
  go_wp2_with fail
  refine M1.out.mono ?_
  rintro e9 v3 ⟨lv, rfl, b3, o3⟩
  obtain ⟨a0, cap, hlv, i3⟩ := o3.in (fun x hx => by simp at hx; omega)
  subst hlv
  have A3 : Hid (Ab v1 v3) := A2.out.trans b3
  have I3 := hid i3
  clear b3 o3 i3 M1 A2
  go_wp2_with fail
  refine (O6.out _).mono ?_
  rintro e9 v4 ⟨b', rfl, b4, r4, l4⟩
  have A4 : Hid (Ab v3 v4) := Ab.trans (bl1 v3 _) b4
  have I4 := hid ((L5.out v3).below b4)
  have R4 := hid r4
  have M2 := hid ((HM.out 1 gb (some ⟨v3.heap.size, 0, none⟩) 6 6 w5 (some ⟨b', 0, none⟩) 12 12 (oneF 0 6) v4 ⟨by omega, by omega⟩ (G1.out.to (A3.out.trans A4.out)) (by omega) (by omega) I4.out (row_in R4.out (fun i _ => by unfold oneF; split <;> omega))).2.1 ⟨rfl, rfl⟩ aw_not)
  clear b4 r4 l4 I4 R4
  go_wp2_with fail
  refine M2.out.mono ?_
  rintro e9 v5 ⟨rfl, b5⟩
  have A5 : Hid (Ab v3 v5) := A4.out.trans b5
  clear b5 M2 A4
  go_wp2_with fail
  refine (T1.out v5).mono ?_
  rintro e9 v6 ⟨rfl, a6⟩
  have A6 : Hid (Ab v3 v6) := A5.out.trans a6
  clear a6 A5
  go_wp2_with fail
  refine (T2.out v6).mono ?_
  rintro e9 v7 ⟨rfl, a7⟩
  have A7 : Hid (Ab v3 v7) := A6.out.trans a7
  clear a7 A6
  have S3 := hid (same_at a0 (some ⟨v7.heap.size, 0, none⟩) 6 cap 6 _ (v7.alloc (.cells #[.int .i64 2, .int .i64 3, .int .i64 0, .int .i64 0, .int .i64 0, .int .i64 0] 2)) (by omega) (I3.out.below (A7.out.alloc _)) (L2.out v7))
  go_wp2_with fail
  refine S3.out.mono ?_
  rintro e9 v8 ⟨rfl, b8⟩
  have A8 : Hid (Ab w v8) := A1.out.trans (A3.out.trans ((A7.out.alloc _).trans b8))
  clear b8
  go_wp2
  go_ret
  exact ⟨rfl, A8.out⟩
end Ms
end Go.Proofs.YtpfndibgfkkcgaaDoor

namespace Go.Proofs.YtpfndibgfkkcgaaDoor
open Go.RowKit Go.Deep Cu
namespace Ms
open Sh
/-- four words of a sum of the reference -/
def Four (w : World) (b : Nat) (i0 i1 i2 i3 : Int) : Prop := w.heap[b]? = some (.cells #[.int .u64 i0, .int .u64 i1, .int .u64 i2, .int .u64 i3] 56)
theorem Four.frz {w : World} {b : Nat} {i0 i1 i2 i3 : Int} (h : Four w b i0 i1 i2 i3) (k : Nat) : w.frozen? ⟨b, k, none⟩ = false := by
  have r : w.rowIs b 56 4 (fun k => (#[.int .u64 i0, .int .u64 i1, .int .u64 i2, .int .u64 i3] : Array Value).getD k (.bool false)) := ⟨_, h, rfl, fun i hi => by
    match i, hi with
    | 0, _ => rfl
    | 1, _ => rfl
    | 2, _ => rfl
    | 3, _ => rfl⟩
  exact r.frozen k
theorem abo_set (w : World) (g k : Nat) (v : Value) : Abo w g (w.setCell ⟨g, k, none⟩ v) := ⟨rfl, rfl, rfl, by simp [World.setCell], fun i _ hne => Below.heap_setCell _ _ _ _ hne⟩
theorem Abo.trans {u v w : World} {g : Nat} (h : Abo u g v) (k : Abo v g w) : Abo u g w := by
  obtain ⟨h1, h2, h3, h4, h5⟩ := h
  obtain ⟨k1, k2, k3, k4, k5⟩ := k
  exact ⟨k1.trans h1, k2.trans h2, k3.trans h3, Nat.le_trans h4 k4, fun i hi hne => (k5 i (by omega) hne).trans (h5 i hi hne)⟩
/-- a sum of the reference, of so many numbers -/
def IsBig (w : World) (b k : Nat) (S : Int) : Prop := ∃ i0 i1 i2 i3 : Int, Four w b i0 i1 i2 i3 ∧ (0 ≤ i0 ∧ i0 ≤ 2147483648 * (k : Int)) ∧ (0 ≤ i1 ∧ i1 ≤ 4294967296 * (k : Int)) ∧ (0 ≤ i2 ∧ i2 ≤ 2147483648 * (k : Int)) ∧ (0 ≤ i3 ∧ i3 ≤ 4294967296 * (k : Int)) ∧ i0 * 4294967296 + i1 - (i2 * 4294967296 + i3) = S
end Ms
end Go.Proofs.YtpfndibgfkkcgaaDoor

namespace Go.Proofs.YtpfndibgfkkcgaaDoor
open Go.RowKit Go.Deep Cu
namespace Ms
open Sh
theorem IsBig.new (w : World) : IsBig (w.alloc (.cells #[.int .u64 0, .int .u64 0, .int .u64 0, .int .u64 0] 56)) w.heap.size 0 0 := ⟨0, 0, 0, 0, heap_alloc_new _ _, by omega, by omega, by omega, by omega, by omega⟩
/-- what a total is, and its error -/
def tv (S : Int) : Int := if -9223372036854775808 ≤ S ∧ S ≤ 9223372036854775807 then S else 0
def te (S : Int) : Int := if -9223372036854775808 ≤ S ∧ S ≤ 9223372036854775807 then 0 else 20
theorem tv_y {S : Int} (c : W64 S) : tv S = S := if_pos c
theorem tv_n {S : Int} (c : ¬ W64 S) : tv S = 0 := if_neg c
theorem te_y {S : Int} (c : W64 S) : te S = 0 := if_pos c
theorem te_n {S : Int} (c : ¬ W64 S) : te S = 20 := if_neg c
theorem total_of (TC : TotalC) (pw : Option Addr) (lw cw : Nat) (W : Nat → Int) (pm : Option Addr) (lm cm : Nat) (M : Nat → Int) (S : Int) (w : World) (h1 : lw ≤ 17592186044416) (h2 : lm ≤ 17592186044416) (hw : IsI w pw lw W) (hm : IsI w pm lm M) (hS : sumN W lw + sumN M lm = S) :
    Calls Tryd.prog 10 #[.slice pw lw cw, .slice pm lm cm] w fun e w' => e = .returned (.tuple #[.int .i64 (tv S), .int .i64 (te S)]) ∧ Below w.heap.size w w' := by
  have h := TC pw lw cw W pm lm cm M w h1 h2 hw hm
  rw [hS] at h
  by_cases c : W64 S
  · rw [tv_y c, te_y c]
    exact h.1 c
  · rw [tv_n c, te_n c]
    exact h.2 c
end Ms
end Go.Proofs.YtpfndibgfkkcgaaDoor
